import PyProof.Rows.All
import Wide.All
import OpenK.AllK
import Wide.FinOn
import Lean
import PyProof.EqAt
import PyProof.EqKinds
import PyProof.TupleCall
import PyProof.CompFree
import PyProof.StationsW
import PyProof.ExcClass3
import PyProof.Commute
import OpenK.KGet
import OpenK.KMeth
import PyProof.ExcArgs
import PyProof.ZipIter
import PyProof.ListNew
import PyProof.EnumMake
import PyProof.EnumStmt
import KE.KRevSl
import PyProof.WalkInts
import PyProof.Rows.MinMaxN
import PyProof.AttrMissHeap
import PyProof.DictList
import PyProof.DictUpdate
import KE.KDictOf
import PyProof.DictWalks
import PyProof.Conv_int_bool
import PyProof.Rows.SetFrom
import PyProof.SetRoads
import PyProof.ForAny
import KE.KDictSum
import PyProof.Rows.SortStr
import PySem.Challenge.RW_unjump_k16_whole_graph_runs_the_same
set_option Elab.async false
set_option linter.all false
set_option maxRecDepth 100000
set_option genSizeOf false
set_option compiler.extract_closed false
namespace L2
open PySem PySem.Spec PyProof.Rows
noncomputable abbrev Key:=Sum Int Str
noncomputable def Cy:Key→Value→Bool
 | .inl k,v=>Value.isInt k v
 | .inr x,v=>Value.isStrOf x v
noncomputable def keyH(w:World):Key→Int
 | .inl k=>hashInt k
 | .inr x=>hashStr w x
theorem Y7:∀{k:Key} {v:Value},Cy k v=true→(∃i t,k=Sum.inl i∧v=Value.int i t)∨(∃x t,k=Sum.inr x∧v=Value.str x t)
 | .inl i,v,h=>by
  obtain⟨t,e⟩:=Value.isInt_shape (k:=i) (v:=v) h
  exact .inl ⟨i,t,rfl,e⟩
 | .inr x,v,h=>by
  obtain⟨t,e⟩:=Value.isStrOf_shape (x:=x) (v:=v) h
  exact .inr ⟨x,t,rfl,e⟩
theorem Z32(i:Int)(t:Tok):Cy (.inl i) (.int i t)=true:=by simp[Cy,Value.isInt]
theorem Z48(x:Str)(t:Tok):Cy (.inr x) (.str x t)=true:=by simp[Cy,Value.isStrOf]
theorem Y11(a b:Int):decide ((Sum.inl a:Key)=Sum.inl b)=(a==b):=by
 by_cases e:a=b
 ·subst e;simp
 ·have h:¬(Sum.inl a:Key)=Sum.inl b:=fun q=>e (Sum.inl.inj q)
  rw[decide_eq_false h]
  exact(beq_eq_false_iff_ne.mpr e).symm
theorem Y28(a b:Str):decide ((Sum.inr a:Key)=Sum.inr b)=decide (a=b):=by
 by_cases e:a=b
 ·subst e;simp
 ·have h:¬(Sum.inr a:Key)=Sum.inr b:=fun q=>e (Sum.inr.inj q)
  rw[decide_eq_false h,decide_eq_false e]
theorem Zz8(a:Int)(b:Str):decide ((Sum.inl a:Key)=Sum.inr b)=false:=decide_eq_false (fun q=>nomatch q)
theorem Y03(a:Str)(b:Int):decide ((Sum.inr a:Key)=Sum.inl b)=false:=decide_eq_false (fun q=>nomatch q)
noncomputable def Y2(prog:Program)(w:World):PySem.KeyKind prog w Key where
 is:=Cy
 hash:=keyH w
 inj:=fun v a b ha hb=>by
  rcases Y7 ha with⟨i,t,rfl,rfl⟩ | ⟨x,t,rfl,rfl⟩
  ·rcases Y7 hb with⟨j,u,rfl,e⟩ | ⟨y,u,rfl,e⟩
   ·injection e with e1 _;rw[e1]
   ·exact nomatch e
  ·rcases Y7 hb with⟨j,u,rfl,e⟩ | ⟨y,u,rfl,e⟩
   ·exact nomatch e
   ·injection e with e1 _;rw[e1]
 byValue:=fun k v h=>by
  rcases Y7 h with⟨i,t,rfl,rfl⟩ | ⟨x,t,rfl,rfl⟩<;>rfl
 pyHash:=fun hv h=>by
  rcases Y7 hv with⟨i,t,rfl,rfl⟩ | ⟨x,t,rfl,rfl⟩
  ·exact wpAny_pyHash_int h
  ·exact wpAny_pyHash_str h
 eqBool:=fun hu hv h=>by
  rcases Y7 hu with⟨i,t,rfl,rfl⟩ | ⟨x,t,rfl,rfl⟩
  ·rcases Y7 hv with⟨j,u,rfl,rfl⟩ | ⟨y,u,rfl,rfl⟩
   ·rw[Y11] at h;exact wpAny_eqBool_int h
   ·rw[Zz8] at h;exact SeqAt.EqAt.int_str i t y u _ _ _ _ h
  ·rcases Y7 hv with⟨j,u,rfl,rfl⟩ | ⟨y,u,rfl,rfl⟩
   ·rw[Y03] at h;exact SeqAt.EqAt.str_int x t j u _ _ _ _ h
   ·rw[Y28] at h;exact wpAny_eqBool_str h
 «strs»:=fun k x t v h=>by
  rcases Y7 h with⟨i,u,rfl,e⟩ | ⟨y,u,rfl,e⟩
  ·exact nomatch e
  ·injection e with e1 _
   subst e1
   cases v<;>rfl
theorem G3(prog:Program)(w:World)(i:Int)(t:Tok):(Y2 prog w).is (.inl i) (.int i t)=true:=Z32 i t
theorem Js(prog:Program)(w:World)(x:Str)(t:Tok):(Y2 prog w).is (.inr x) (.str x t)=true:=Z48 x t
inductive V where
 | non | bl (b:Bool) | int (i:Int) | str (x:Str) | byt (b:Array UInt8) | flt (b:UInt64) | ref (a:Addr) | ty (n:String)
 deriving DecidableEq
def RelV:V→Value→Prop
 | .non,u=>u=Value.none
 | .bl b,u=>u=Value.bool b
 | .int i,u=>∃t,u=Value.int i t
 | .str x,u=>∃t,u=Value.str x t
 | .byt b,u=>∃t,u=Value.bytes b t
 | .flt b,u=>∃t,u=Value.float b t
 | .ref a,u=>u=Value.ref a
 | .ty n,u=>u=Value.type n
abbrev Vals:List V→List Value→Prop:=Paired RelV
theorem Vals.length{xs:List V}{us:List Value}(r:Vals xs us):xs.length=us.length:=Paired.length r
theorem Vals.get:∀{xs:List V} {us:List Value} {i:Nat} {x:V},Vals xs us→xs[i]?=some x→∃u,us[i]?=some u∧RelV x u
 | _,_,_,_,.nil,e=>by simp at e
 | _,_,0,_,.cons r _,e=>by simp at e;subst e;exact⟨_,rfl,r⟩
 | _,_,i+1,x,.cons _ t,e=>by
  obtain⟨u,h1,h2⟩:=Vals.get (i:=i) (x:=x) t (by simpa using e)
  exact⟨u,by simpa using h1,h2⟩
theorem Vals.set{x:V}{u:Value}(r:RelV x u):∀{xs:List V} {us:List Value} (i:Nat),Vals xs us→Vals (xs.set i x) (us.set i u)
 | _,_,_,.nil=> .nil
 | _,_,0,.cons _ t=> .cons r t
 | _,_,i+1,.cons q t=> .cons q (Vals.set r i t)
theorem Vals.append:∀{xs ys:List V} {us ws:List Value},Vals xs us→Vals ys ws→Vals (xs++ys) (us++ws)
 | _,_,_,_,.nil,s=>s
 | _,_,_,_,.cons r t,s=> .cons r (Vals.append t s)
theorem Vals.take:∀{xs:List V} {us:List Value} (n:Nat),Vals xs us→Vals (xs.take n) (us.take n)
 | _,_,0,_=> .nil
 | _,_,_+1,.nil=> .nil
 | _,_,n+1,.cons r t=> .cons r (Vals.take n t)
theorem Vals.drop:∀{xs:List V} {us:List Value} (n:Nat),Vals xs us→Vals (xs.drop n) (us.drop n)
 | _,_,0,r=>r
 | _,_,_+1,.nil=> .nil
 | _,_,n+1,.cons _ t=>Vals.drop n t
def RelO:Option V→Option Value→Prop
 | some v,some u=>RelV v u
 | none,none=>True
 | _,_=>False
def KV{κ:Type}:List (κ×V)→List (κ×Value)→Prop:=Paired fun(p:κ×V) (q:κ×Value)=>p.1=q.1∧RelV p.2 q.2
noncomputable def kV:Key→V
 | .inl i=> .int i
 | .inr x=> .str x
inductive HO where
 | lst (xs:List V)
 | tup (xs:List V)
 | dK (kvs:List (Key×V)) | dT (kvs:List (List Key×V))
 | set (S:Int→Bool) (n:Nat)
 | ins (C dx:Addr) (fs:List (Str×V))
 | own (x:Addr)
 | xd (fs:List (Str×V))
 | met (f x:Addr)
 | rng (lo hi:Int)
 | frz (o:Obj) (u:HO)
 | tbl (ps:Array Value)
 | ext (φ:Heap→Prop)
noncomputable abbrev Hp:=Addr→Option HO
noncomputable def upd(H:Hp)(a:Addr)(o:HO):Hp:=fun b=>if b=a then some o else H b
theorem Zz{H:Hp}{a:Addr}{o:HO}:upd H a o a=some o:=by unfold upd;rw[if_pos rfl]
theorem Ze{H:Hp}{a b:Addr}{o:HO}(h:b≠a):upd H a o b=H b:=by unfold upd;rw[if_neg h]
theorem Y50{H:Hp}{a b:Addr}{o u:HO}(h:H a=some o)(h':H b=some u)(d:o≠u):a≠b:=by
 intro e;subst e;rw[h] at h';exact d (Option.some.inj h')
theorem Wg{H:Hp}{a b:Addr}{o:HO}(h:H a=some o)(h':H b=none):a≠b:=by
 intro e;subst e;rw[h] at h';cases h'
section
variable(P:Program)(w:World)
def Ys(H:Hp)(h:Heap)(a:Addr):HO→Prop
 | .lst xs=>xs.length≤sizeLine∧∃(its:List Value) (n:Nat),Vals xs its∧h.get? a=some {cls:= .type "list",data:= .seq its.toArray n}
 | .tup xs=>xs.length≤sizeLine∧∃its:List Value,Vals xs its∧IsTup h a its.toArray
 | .dK kvs=>kvs.length≤sizeLine∧(a==sysModules)=false∧∃vs,KV kvs vs∧h.DictOf (Y2 P w) a vs
 | .dT kvs=>kvs.length≤sizeLine∧(a==sysModules)=false∧∃xs:List (List Key×Addr×Value),
   Paired (fun(p:List Key×V) (q:List Key×Addr×Value)=>p.1=q.1∧H q.2.1=some (.tup (p.1.map kV))∧RelV p.2 q.2.2) kvs xs∧
   ∃o es ep,h.get? a=some o∧o.ExactDict∧o.data= .dict es ep∧es.toList=xs.map (entryOfKey (tupleKind (Y2 P w)))∧(xs.map (·.1)).Nodup
 | .set S n=>h.SetOf (intKind P w) a S n
 | .ins C dx fs=>H dx=some (.own a)∧fs.length≤1000∧dx≠a∧h.get? a=some (PySem.W.instObj C dx)∧
   ∃mA,h.Ns1 dx mA∧(∀f,RelO (fs.lookup f) (mA f))∧PySem.Within mA (fs.map (·.1))
 | .own _=>∃o,h.get? a=some o
 | .xd fs=>∃mA,h.Ns1 a mA∧∀f,RelO (fs.lookup f) (mA f)
 | .rng lo hi=>∃t u v,h.get? a=some {cls:= .type "range",data:= .fields #[.int lo t,.int hi u,.int 1 v]}
 | .frz o u=>h.get? a=some o∧Ys H h a u
 | .tbl ps=>h.get? a=some {cls:= .none,data:= .fields ps}
 | .met f x=>h.get? a=some (PySem.W.methodObj (.ref f) (.ref x))
 | .ext φ=>φ h∧(∃o,h.get? a=some o)∧∀h1 h2:Heap,φ h1→(∀o,h1.get? a=some o→h2.get? a=some o)→φ h2
def HOk(H:Hp)(h:Heap):Prop:=∀a o,H a=some o→Ys P w H h a o
end
section
variable{P:Program}{w:World}{H H':Hp}{h h':Heap}{a:Addr}{o:HO}
theorem Ys.lt(x:Ys P w H h a o):a<h.objs.size:=by
 cases o with
 | lst xs=>obtain⟨_,_,_,_,e⟩:=x;exact Heap.lt_size e
 | tup xs=>obtain⟨_,_,_,p⟩:=x;exact p.lt
 | dK kvs=>obtain⟨_,_,_,_,o,_,_,e,_⟩:=x;exact Heap.lt_size e
 | dT kvs=>obtain⟨_,_,_,_,o,_,_,e,_⟩:=x;exact Heap.lt_size e
 | set S n=>obtain⟨o,_,_,_,e,_⟩:=x;exact Heap.lt_size e
 | ins C dx fs=>obtain⟨_,_,_,e,_⟩:=x;exact Heap.lt_size e
 | own y=>obtain⟨_,e⟩:=x;exact Heap.lt_size e
 | xd fs=>obtain⟨_,⟨_,_,_,e,_⟩,_⟩:=x;exact Heap.lt_size e
 | rng lo hi=>obtain⟨_,_,_,e⟩:=x;exact Heap.lt_size e
 | frz ob u=>obtain⟨e,_⟩:=x;exact Heap.lt_size e
 | tbl ps=>exact Heap.lt_size (show h.get? a=some _ from x)
 | met f y=>exact Heap.lt_size (show h.get? a=some _ from x)
 | ext φ=>obtain⟨_,⟨_,e⟩,_⟩:=x;exact Heap.lt_size e
theorem Paired.mapP{α β:Type}{F G:α→β→Prop}:∀{l₁:List α} {l₂:List β},Paired F l₁ l₂→(∀a b,F a b→G a b)→Paired G l₁ l₂
 | _,_,.nil,_=> .nil
 | _,_,.cons r t,f=> .cons (f _ _ r) (Paired.mapP t f)
theorem Ys.stay(x:Ys P w H h a o)(k:∀b u,(b=a∨H b=some (.own a))→h.get? b=some u→h'.get? b=some u)
  (ho:∀b,H b=some (.own a)→H' b=some (.own a)) (ht:∀b xs,H b=some (.tup xs)→H' b=some (.tup xs)):Ys P w H' h' a o:=by
 induction o with
 | lst xs=>obtain⟨z,its,n,r,e⟩:=x;exact⟨z,its,n,r,k _ _ (.inl rfl) e⟩
 | tup xs=>obtain⟨z,its,r,ob,e,c⟩:=x;exact⟨z,its,r,ob,k _ _ (.inl rfl) e,c⟩
 | dK kvs=>obtain⟨z,y,vs,r,ob,es,ep,e,c⟩:=x;exact⟨z,y,vs,r,ob,es,ep,k _ _ (.inl rfl) e,c⟩
 | dT kvs=>
  obtain⟨z,y,xs,r,ob,es,ep,e,c⟩:=x
  exact⟨z,y,xs,Paired.mapP r fun p q z=>⟨z.1,ht _ _ z.2.1,z.2.2⟩,ob,es,ep,k _ _ (.inl rfl) e,c⟩
 | set S n=>obtain⟨ob,es,ep,t,e,c⟩:=x;exact⟨ob,es,ep,t,k _ _ (.inl rfl) e,c⟩
 | ins C dx fs=>
  obtain⟨d,z,ne,e,mA,⟨od,es,ep,e2,c⟩,r⟩:=x
  exact⟨ho _ d,z,ne,k _ _ (.inl rfl) e,mA,⟨od,es,ep,k _ _ (.inr d) e2,c⟩,r⟩
 | own y=>obtain⟨ob,e⟩:=x;exact⟨ob,k _ _ (.inl rfl) e⟩
 | xd fs=>obtain⟨mA,⟨od,es,ep,e,c⟩,r⟩:=x;exact⟨mA,⟨od,es,ep,k _ _ (.inl rfl) e,c⟩,r⟩
 | rng lo hi=>obtain⟨t,u,v,e⟩:=x;exact⟨t,u,v,k _ _ (.inl rfl) e⟩
 | frz ob u ih=>obtain⟨e,q⟩:=x;exact⟨k _ _ (.inl rfl) e,ih q⟩
 | tbl ps=>
  have e:h.get? a=some {cls:= .none,data:= .fields ps}:=x
  show h'.get? a=some {cls:= .none,data:= .fields ps}
  exact k a _ (.inl rfl) e
 | met f y=>
  have e:h.get? a=some (PySem.W.methodObj (.ref f) (.ref y)):=x
  show h'.get? a=some (PySem.W.methodObj (.ref f) (.ref y))
  exact k a _ (.inl rfl) e
 | ext φ=>obtain⟨p,⟨o,e⟩,st⟩:=x;exact⟨st _ _ p fun o q=>k _ _ (.inl rfl) q,⟨o,k _ _ (.inl rfl) e⟩,st⟩
theorem HOk.lt(x:HOk P w H h)(e:H a=some o):a<h.objs.size:=(x a o e).lt
theorem HOk.fresh(x:HOk P w H h)(e:h.objs.size≤a):H a=none:=by
 cases q:H a with
 | none=>rfl
 | some u=>exact absurd (Nat.lt_of_lt_of_le (x.lt q) e) (Nat.lt_irrefl _)
theorem HOk.kept(x:HOk P w H h)(k:∀b u,h.get? b=some u→h'.get? b=some u):HOk P w H h':=fun a o e=>
 (x a o e).stay (fun b u _ q=>k b u q) (fun _ q=>q) fun _ _ q=>q
theorem HOk.laid(x:HOk P w H h)(k:∀b u,h.get? b=some u→h'.get? b=some u)(hp:h.objs.size≤a)(new:Ys P w (upd H a o) h' a o):HOk P w (upd H a o) h':=fun b u e=>by
 have hn:=x.fresh hp
 by_cases hb:b=a
 ·subst hb;rw[Zz] at e;cases e;exact new
 ·rw[Ze hb] at e
  exact(x b u e).stay (fun c v _ q=>k c v q) (fun c q=>by rw[Ze (Wg q hn)];exact q) fun c xs q=>by rw[Ze (Wg q hn)];exact q
end
def Rd(H:Hp)(a:Addr)(u:HO):Prop:=H a=some u∨∃o,H a=some (.frz o u)
theorem Rd.of{H:Hp}{a:Addr}{u:HO}(h:H a=some u):Rd H a u:= .inl h
theorem Rd.ok{P:Program}{w:World}{H:Hp}{h:Heap}{a:Addr}{u:HO}(r:Rd H a u)(x:HOk P w H h):Ys P w H h a u:=by
 rcases r with r | ⟨o,r⟩
 ·exact x a u r
 ·obtain⟨_,q⟩:=x a _ r
  exact q
def Mut:Option HO→Prop
 | some (.lst _)=>True
 | some (.dK _)=>True
 | some (.dT _)=>True
 | some (.set _ _)=>True
 | some (.ins _ _ _)=>True
 | some (.ext _)=>True
 | _=>False
section
variable{P:Program}{w:World}{H:Hp}{h h':Heap}{x e:Addr}{o':HO}
theorem HOk.write(ok:HOk P w H h)(mu:Mut (H x))(he:e=x∨H e=some (.own x))(k:∀b u,b≠e→h.get? b=some u→h'.get? b=some u)(heo:∃u,h'.get? e=some u)
  (new:Ys P w (upd H x o') h' x o'):HOk P w (upd H x o') h':=fun b u q=>by
 have nown:∀c y,H c=some (.own y)→c≠x:=fun c y r z=>by subst z;rw[r] at mu;exact mu
 have ntup:∀c xs,H c=some (.tup xs)→c≠x:=fun c xs r z=>by subst z;rw[r] at mu;exact mu
 by_cases hb:b=x
 ·subst hb;rw[Zz] at q;cases q;exact new
 ·rw[Ze hb] at q
  by_cases hbe:b=e
  ·have q':H b=some (.own x):=by
    rcases he with z | z
    ·exact absurd (hbe.trans z) hb
    ·rw[hbe];exact z
   rw[q] at q';cases q'
   obtain⟨v,hv⟩:=heo
   exact⟨v,by rw[hbe];exact hv⟩
  ·refine(ok b u q).stay (fun c v hc r=>k c v ?_ r) (fun c r=>by rw[Ze (nown c b r)];exact r) fun c xs r=>by rw[Ze (ntup c xs r)];exact r
   rcases hc with rfl | hc
   ·exact hbe
   ·rintro rfl
    rcases he with z | z
    ·exact nown c b hc z
    ·rw[hc] at z;cases z;exact hb rfl
end
structure Un(fs ex:List Addr)(H H':Hp)(h h':Heap):Prop where
 keep:∀b o,h.get? b=some o→H b=none→b∉fs→b∉ex→h'.get? b=some o
 slot:∀b o,h.get? b=some o→H b=none→b∈fs→b∉ex→∃sl,h'.get? b=some {o with slots:=sl}
 free:∀b o,h.get? b=some o→H b=none→b∉ex→H' b=none
 there:∀b o,h.get? b=some o→b∉ex→∃o',h'.get? b=some o'
 tups:∀b xs,H b=some (.tup xs)→H' b=some (.tup xs)
 frzs:∀b o u,H b=some (.frz o u)→H' b=some (.frz o u)
 tbls:∀b ps,H b=some (.tbl ps)→∃more,H' b=some (.tbl (ps++more))
section
variable{fs fs' ex ex':List Addr}{H H1 H2:Hp}{h h1 h2 h':Heap}{a x e:Addr}{o:HO}
theorem Un.any(u:Un fs ex H H1 h h1){b:Addr}{ob:Obj}(q:h.get? b=some ob)(n:H b=none)(hx:b∉ex):∃sl,h1.get? b=some {ob with slots:=sl}:=by
 by_cases hb:b∈fs
 ·exact u.slot b ob q n hb hx
 ·exact⟨ob.slots,u.keep b ob q n hb hx⟩
theorem Un.kept(k:∀b u,h.get? b=some u→h'.get? b=some u):Un fs ex H H h h':=
 ⟨fun b ob q _ _ _=>k b ob q,fun b ob q _ _ _=>⟨ob.slots,k b ob q⟩,fun _ _ _ n _=>n,fun b ob q _=>⟨ob,k b ob q⟩,fun _ _ q=>q,fun _ _ _ q=>q,fun _ ps q=>⟨#[],by rw[q];simp⟩⟩
theorem Un.refl:Un fs ex H H h h:=Un.kept fun _ _ q=>q
theorem Un.laid(k:∀b u,h.get? b=some u→h'.get? b=some u)(hp:h.objs.size≤a)(hn:H a=none):Un fs ex H (upd H a o) h h' where
 keep:=fun b u q _ _ _=>k b u q
 slot:=fun b u q _ _ _=>⟨u.slots,k b u q⟩
 free:=fun b u q n _=>by rw[Ze (Nat.ne_of_lt (Nat.lt_of_lt_of_le (Heap.lt_size q) hp))];exact n
 there:=fun b u q _=>⟨u,k b u q⟩
 tups:=fun b xs q=>by rw[Ze (Wg q hn)];exact q
 frzs:=fun b u xs q=>by rw[Ze (Wg q hn)];exact q
 tbls:=fun b ps q=>⟨#[],by rw[Ze (Wg q hn),q];simp⟩
theorem Un.write(mu:Mut (H x))(he:e=x∨H e=some (.own x))(k:∀b u,b≠e→h.get? b=some u→h'.get? b=some u)(heo:∃u,h'.get? e=some u):Un fs ex H (upd H x o) h h':=by
 have hx:∀b,H b=none→b≠x:=fun b n z=>by subst z;rw[n] at mu;exact mu
 have hb:∀b,H b=none→b≠e:=fun b n z=>by
  subst z
  rcases he with r | r
  ·exact hx b n r
  ·rw[n] at r;cases r
 have hm:∀b u,H b=some u→¬Mut (some u)→b≠x:=fun b u q nm z=>by subst z;rw[q] at mu;exact nm mu
 refine⟨fun b u q n _ _=>k b u (hb b n) q,fun b u q n _ _=>⟨u.slots,k b u (hb b n) q⟩,fun b u q n _=>by rw[Ze (hx b n)];exact n,fun b u q _=>?_,
  fun b xs q=>by rw[Ze (hm b _ q fun z=>z)];exact q,fun b u xs q=>by rw[Ze (hm b _ q fun z=>z)];exact q,fun b ps q=>⟨#[],by rw[Ze (hm b _ q fun z=>z),q];simp⟩⟩
 by_cases hbe:b=e
 ·subst hbe;exact heo
 ·exact⟨u,k b u hbe q⟩
end
noncomputable def trk(h:Heap)(H:Hp):List Addr:=(List.range h.objs.size).filter fun a=>(H a).isSome
noncomputable def hidT(h:Heap)(H:Hp):Heap:=PySem.W.hideAll h (trk h H)
theorem Z86(h:Heap)(H:Hp):(hidT h H).objs.size=h.objs.size:=PySem.W.hideAll_size _ _
theorem Za1{h:Heap}{H:Hp}{b:Addr}{o:Obj}(e:h.get? b=some o)(n:H b=none):(hidT h H).get? b=some o:=
 PySem.W.hideAll_get _ e fun hm=>by
  have q:(H b).isSome=true:=(List.mem_filter.mp hm).2
  rw[n] at q;simp at q
theorem Zl6{h:Heap}{H:Hp}{b:Addr}{o:Obj}(e:(hidT h H).get? b=some o):h.get? b=some o∧H b=none:=by
 have e':h.get? b=some o:=PySem.W.of_hideAll (trk h H) e
 refine⟨e',?_⟩
 cases q:H b with
 | none=>rfl
 | some x=>
  have hm:b∈trk h H:=List.mem_filter.mpr ⟨List.mem_range.mpr (Heap.lt_size e'),by simp[q]⟩
  have z:(hidT h H).get? b=none:=PySem.W.hideAll_none (trk h H) hm
  rw[z] at e;cases e
noncomputable def Zo8(g h:Heap)(L:Addr):List (Addr×Obj):=(List.range h.objs.size).filterMap fun a=>if a=L∨(g.get? a).isSome=true then none else(h.get? a).map fun o=>(a,o)
noncomputable def rest(g h:Heap)(L d:Addr):List (Addr×Obj):=(Zo8 g h L).filter fun p=>decide (p.1≠d)
structure Mod(K:PySem.W.Frag)(mg:Str→Option Value)(base:Heap):Prop where
 kin:K.In base
 glob:base.Ns mainGlobals mg
 blt:∃mb,base.Ns builtinsNs mb∧∀x:Str,x≠"__name__"→mb x=bootBuiltins x
 nolimit:base.NoLimit
structure Cx where
 prog:Program
 w:World
 K:PySem.W.Frag
 mg:Str→Option Value
 base:Heap
 A:Around
 N:List Str
 s₀:Shared
 H₀:Hp
 env:Env
 outer:List Env
 stack:List Env
 ex:List Addr
 fn:Str→Bool
 calm:Bool
 pn:List (Addr×Obj)
 xe:Value→Shared→Prop
noncomputable def frs(l:List Env):List Addr:=l.filterMap (·.frame)
noncomputable abbrev Cx.fs(X:Cx):List Addr:=frs X.outer
def Vis(sc:Scope)(x:Str):Prop:=sc.names.lookup x=some .local∨sc.names.lookup x=some .cell∨sc.names.lookup x=some .free
def Loc(sc:Scope)(x:Str):Prop:=sc.names.lookup x=some .local∨sc.names.lookup x=some .cell
def Look(env:Env)(h:Heap)(m:Str→Option Value)(x:Str)(u:Value):Prop:=
 (env.kindOf x=some .local∧m x=some u)∨((env.kindOf x=some .cell∨env.kindOf x=some .free)∧∃c,env.cells.lookup x=some c∧h.IsCell c (some u))
structure Cx.Ok(X:Cx):Prop where
 mod:Mod X.K X.mg X.base
 kind:X.env.scope.kind= .function
 glob:X.env.globals=mainGlobals
 blt:X.env.builtins=builtinsNs
 above:X.s₀.heap.objs.size≤X.env.locals
 inj:∀x y c,X.env.cells.lookup x=some c→X.env.cells.lookup y=some c→x=y
 has:∀x,(X.env.kindOf x=some .cell∨X.env.kindOf x=some .free)→∃c,X.env.cells.lookup x=some c
 cab:∀x c,X.fn x=true→X.env.cells.lookup x=some c→X.s₀.heap.objs.size≤c
 hd:X.calm=true→X.A.handled=none
 frames:X.A.frames=some X.stack
 stk:X.stack=X.outer∨(X.stack=X.env::X.outer∧X.env.frame=some X.env.locals)
 exf:∀b∈X.ex,b≠X.env.locals∧∀x c,X.env.cells.lookup x=some c→c≠b
 bs:∀b o,X.base.get? b=some o→X.s₀.heap.get? b=some o∧X.H₀ b=none
 bsz:X.base.objs.size≤X.s₀.heap.objs.size
 noex:∀b o,X.base.get? b=some o→b∉X.ex
 exfs:∀b∈X.ex,b∉X.fs
 funs:X.s₀.heap.FunFrames X.base X.outer
 frf:∀b∈X.fs,X.H₀ b=none
structure Inv(X:Cx)(pins:List (Addr×Obj))(σ:List (Option V))(H:Hp)(s:Shared):Prop where
 ok:X.Ok
 os:s.os=X.s₀.os
 bare:AllBare s.gens
 base:Un X.fs X.ex X.H₀ H X.s₀.heap s.heap
 loc:∃m,s.heap.Ns X.env.locals m∧∀(i:Nat) (x:Str) (v:V),X.N[i]?=some x→σ[i]?=some (some v)→Vis X.env.scope x→∃u,RelV v u∧Look X.env s.heap m x u
 cell:∀x c,X.env.cells.lookup x=some c→∃v,s.heap.IsCell c v
 free:H X.env.locals=none
 freeC:∀x c,X.env.cells.lookup x=some c→H c=none
 pin:∀p∈X.pn++pins,s.heap.get? p.1=some p.2∧H p.1=none∧p.1≠X.env.locals∧p.1∉X.fs∧∀v,p.2.data≠ .cell v
 hok:HOk X.prog X.w H s.heap
 len:σ.length=X.N.length
section
variable{X:Cx}{pins:List (Addr×Obj)}{σ:List (Option V)}{H H':Hp}{s:Shared}{h':Heap}
theorem Cx.Ok.nofr(ok:X.Ok){b:Addr}{o:Obj}(e:X.base.get? b=some o):b∉X.fs:=fun hb=>by
 have:=(ok.funs.mem hb).1
 rw[e] at this;cases this
theorem Inv.bs(I:Inv X pins σ H s):∀b o,X.base.get? b=some o→s.heap.get? b=some o∧H b=none:=fun b o e=>
 ⟨I.base.keep b o (I.ok.bs b o e).1 (I.ok.bs b o e).2 (I.ok.nofr e) (I.ok.noex b o e),I.base.free b o (I.ok.bs b o e).1 (I.ok.bs b o e).2 (I.ok.noex b o e)⟩
theorem Inv.bk(I:Inv X pins σ H s):∀b o,X.base.get? b=some o→s.heap.get? b=some o:=fun b o e=>(I.bs b o e).1
theorem Inv.mod(I:Inv X pins σ H s):Mod X.K X.mg X.base:=I.ok.mod
theorem Inv.kIn(I:Inv X pins σ H s):X.K.In s.heap:=I.ok.mod.kin.keeps I.bk
theorem Inv.lt(I:Inv X pins σ H s):X.env.locals<s.heap.objs.size:=by obtain⟨_,hn,_⟩:=I.loc;exact hn.lt
theorem Inv.sz(I:Inv X pins σ H s):X.s₀.heap.objs.size≤s.heap.objs.size:=Nat.le_trans I.ok.above (Nat.le_of_lt I.lt)
theorem Inv.nofs(I:Inv X pins σ H s){a:Addr}(h:s.heap.objs.size≤a):a∉X.fs:=fun hb=>by
 obtain⟨_,o,ho,_⟩:=I.ok.funs.mem hb
 exact absurd (Nat.lt_of_lt_of_le (Heap.lt_size ho) (Nat.le_trans I.sz h)) (Nat.lt_irrefl _)
theorem Inv.cne(I:Inv X pins σ H s):∀x c,X.env.cells.lookup x=some c→c≠X.env.locals:=fun x c e z=>by
 obtain⟨v,o,ho,hd⟩:=I.cell x c e
 obtain⟨m,⟨o',es,ep,ho',hd',_⟩,_⟩:=I.loc
 rw[z,ho'] at ho;cases ho;rw[hd'] at hd;cases hd
theorem Inv.funs(I:Inv X pins σ H s):s.heap.FunFrames X.base X.outer:=by
 have all:∀(l:List Env),(∀b∈frs l,b∈X.fs)→X.s₀.heap.FunFrames X.base l→s.heap.FunFrames X.base l:=by
  intro l
  induction l with
  | nil=>intro _ _;trivial
  | cons env r ih=>
   intro hs hl
   obtain⟨hk,⟨L,o,hf,hn,ho,hd⟩,hr⟩:=hl
   have hL:L∈X.fs:=hs L (by unfold frs;rw[List.filterMap_cons,hf];exact List.mem_cons_self)
   obtain⟨sl,e⟩:=I.base.slot L o ho (I.ok.frf L hL) hL fun z=>I.ok.exfs L z hL
   exact⟨hk,⟨L,_,hf,hn,e,hd⟩,ih (fun b hb=>hs b (by unfold frs;rw[List.filterMap_cons,hf];exact List.mem_cons_of_mem _ hb)) hr⟩
 exact all X.outer (fun _ hb=>hb) I.ok.funs
theorem Inv.stack(I:Inv X pins σ H s):s.heap.FunFrames X.base X.stack:=by
 rcases I.ok.stk with e | ⟨e,hf⟩
 ·rw[e];exact I.funs
 ·rw[e]
  obtain⟨m,hn,_⟩:=I.loc
  refine .cons (by rw[I.ok.kind];decide) hf hn ?_ I.funs
  exact Heap.get?_none_of_le (Nat.le_trans I.ok.bsz I.ok.above)
theorem Inv.stkSub(I:Inv X pins σ H s):∀b∈frs X.stack,b∈X.env.locals::X.fs:=fun b hb=>by
 rcases I.ok.stk with e | ⟨e,hf⟩
 ·rw[e] at hb;exact List.mem_cons_of_mem _ hb
 ·rw[e] at hb
  unfold frs at hb
  rw[List.filterMap_cons,hf] at hb
  exact hb
theorem Inv.stkFree(I:Inv X pins σ H s):∀b∈frs X.stack,H b=none:=fun b hb=>by
 rcases List.mem_cons.mp (I.stkSub b hb) with e | hb
 ·rw[e];exact I.free
 ·obtain⟨_,o,ho,_⟩:=I.ok.funs.mem hb
  exact I.base.free b o ho (I.ok.frf b hb) fun z=>I.ok.exfs b z hb
theorem Inv.step{g':Array GenState}{t':Nat}{d':Drawn}{ch:List Addr}(I:Inv X pins σ H s)
  (hch:∀b∈ch,(b∈X.ex∨X.s₀.heap.objs.size≤b)∧b≠X.env.locals∧(∀x c,X.env.cells.lookup x=some c→c≠b)∧∀p∈X.pn++pins,p.1≠b)
  (keep:∀b o,b≠X.env.locals→b∉X.fs→b∉ch→s.heap.get? b=some o→H b=none→h'.get? b=some o)
  (slot:∀b o,b≠X.env.locals→b∈X.fs→b∉ch→s.heap.get? b=some o→H b=none→∃sl,h'.get? b=some {o with slots:=sl}) (free:∀b o,b∉ch→s.heap.get? b=some o→H b=none→H' b=none)
  (there:∀b o,b∉ch→s.heap.get? b=some o→∃o',h'.get? b=some o')
  (tups:∀b xs,H b=some (.tup xs)→H' b=some (.tup xs)) (frzs:∀b o u,H b=some (.frz o u)→H' b=some (.frz o u)) (tbls:∀b ps,H b=some (.tbl ps)→∃more,H' b=some (.tbl (ps++more)))
  (ns:∀m,s.heap.Ns X.env.locals m→h'.Ns X.env.locals m) (hok:HOk X.prog X.w H' h') (hg:AllBare g'):
  Inv X pins σ H' {s with heap:=h',gens:=g',drawn:=d',toks:=t'}:=by
 have neL:∀b o,X.s₀.heap.get? b=some o→b≠X.env.locals:=fun b o e=>Nat.ne_of_lt (Nat.lt_of_lt_of_le (Heap.lt_size e) I.ok.above)
 have neC:∀b o,X.s₀.heap.get? b=some o→b∉X.ex→b∉ch:=fun b o e hx hb=>by
  rcases(hch b hb).1 with z | z
  ·exact hx z
  ·exact absurd (Nat.lt_of_lt_of_le (Heap.lt_size e) z) (Nat.lt_irrefl _)
 have cellK:∀x c,X.env.cells.lookup x=some c→∀v,s.heap.IsCell c v→h'.IsCell c v:=fun x c e v ⟨o,ho,hd⟩=>by
  have nch:c∉ch:=fun z=>(hch c z).2.2.1 x c e rfl
  by_cases hc:c∈X.fs
  ·obtain⟨sl,q⟩:=slot c o (I.cne x c e) hc nch ho (I.freeC x c e)
   exact⟨_,q,hd⟩
  ·exact⟨o,keep c o (I.cne x c e) hc nch ho (I.freeC x c e),hd⟩
 refine⟨I.ok,I.os,hg,⟨fun b o e n hb hx=>?_,fun b o e n hb hx=>?_,fun b o e n hx=>?_,fun b o e hx=>?_,fun b xs e=>tups b xs (I.base.tups b xs e),fun b o xs e=>frzs b o xs (I.base.frzs b o xs e),fun b ps e=>?_⟩,?_,fun x c e=>?_,?_,fun x c e=>?_,fun p hp=>?_,hok,I.len⟩
 ·exact keep b o (neL b o e) hb (neC b o e hx) (I.base.keep b o e n hb hx) (I.base.free b o e n hx)
 ·obtain⟨sl,e1⟩:=I.base.slot b o e n hb hx
  obtain⟨sl',e2⟩:=slot b _ (neL b o e) hb (neC b o e hx) e1 (I.base.free b o e n hx)
  exact⟨sl',e2⟩
 ·obtain⟨o',e1⟩:=I.base.there b o e hx
  exact free b o' (neC b o e hx) e1 (I.base.free b o e n hx)
 ·obtain⟨o',e1⟩:=I.base.there b o e hx
  exact there b o' (neC b o e hx) e1
 ·obtain⟨m1,e1⟩:=I.base.tbls b ps e
  obtain⟨m2,e2⟩:=tbls b _ e1
  exact⟨m1++m2,by rw[e2,Array.append_assoc]⟩
 ·obtain⟨m,hn,hl⟩:=I.loc
  refine⟨m,ns m hn,fun i x v e1 e2 e3=>?_⟩
  obtain⟨u,r,l⟩:=hl i x v e1 e2 e3
  refine⟨u,r,?_⟩
  rcases l with l | ⟨k,c,e,z⟩
  ·exact .inl l
  ·exact .inr ⟨k,c,e,cellK x c e _ z⟩
 ·obtain⟨v,z⟩:=I.cell x c e
  exact⟨v,cellK x c e v z⟩
 ·obtain⟨m,⟨o,_,_,ho,_⟩,_⟩:=I.loc
  exact free _ o (fun z=>(hch _ z).2.1 rfl) ho I.free
 ·obtain⟨v,o,ho,hd⟩:=I.cell x c e
  exact free c o (fun z=>(hch c z).2.2.1 x c e rfl) ho (I.freeC x c e)
 ·obtain⟨e,n,ne,nf,d⟩:=I.pin p hp
  have nch:p.1∉ch:=fun z=>(hch p.1 z).2.2.2 p hp rfl
  exact⟨keep p.1 p.2 ne nf nch e n,free p.1 p.2 nch e n,ne,nf,d⟩
theorem Inv.un{t':Nat}(I:Inv X pins σ H s)(u:Un X.fs [] H H' s.heap h')(hok:HOk X.prog X.w H' h'):Inv X pins σ H' {s with heap:=h',toks:=t'}:=by
 obtain⟨m,⟨o,es,ep,ho,r⟩,_⟩:=id I.loc
 obtain⟨sl,hL⟩:=u.any ho I.free (by simp)
 exact I.step (g':=s.gens) (d':=s.drawn) (ch:=[]) (fun _ z=>nomatch z) (fun b o _ hb _ e n=>u.keep b o e n hb (by simp)) (fun b o _ hb _ e n=>u.slot b o e n hb (by simp)) (fun b o _ e n=>u.free b o e n (by simp)) (fun b o _ e=>u.there b o e (by simp)) u.tups u.frzs u.tbls (fun m' hm=>by
  obtain⟨o',es',ep',ho',r'⟩:=hm
  rw[ho] at ho';cases ho'
  exact⟨_,es',ep',hL,r'⟩) hok I.bare
theorem Inv.call{g':Array GenState}{t':Nat}{d':Drawn}{ch:List Addr}(I:Inv X pins σ H s)(u:Un (frs X.stack) ch H H' s.heap h')(hok:HOk X.prog X.w H' h')(hg:AllBare g')
  (hch:∀b∈ch,(b∈X.ex∨X.s₀.heap.objs.size≤b)∧b≠X.env.locals∧(∀x c,X.env.cells.lookup x=some c→c≠b)∧∀p∈X.pn++pins,p.1≠b):
  Inv X pins σ H' {s with heap:=h',gens:=g',drawn:=d',toks:=t'}:=by
 obtain⟨m,⟨o,es,ep,ho,r⟩,_⟩:=id I.loc
 obtain⟨sl,hL⟩:=u.any ho I.free fun z=>(hch _ z).2.1 rfl
 exact I.step (ch:=ch) hch (fun b o hL hb hc e n=>u.keep b o e n (fun z=>(List.mem_cons.mp (I.stkSub b z)).elim hL hb) hc) (fun b o _ _ hc e n=>u.any e n hc) (fun b o hc e n=>u.free b o e n hc) (fun b o hc e=>u.there b o e hc) u.tups u.frzs u.tbls (fun m' hm=>by
  obtain⟨o',es',ep',ho',r'⟩:=hm
  rw[ho] at ho';cases ho'
  exact⟨_,es',ep',hL,r'⟩) hok hg
theorem Inv.turned{t':Nat}{it:Addr}(I:Inv X pins σ H s)(k:∀b o,b≠it→s.heap.get? b=some o→h'.get? b=some o)(hn:H it=none)(hL:it≠X.env.locals)
  (h1:it∈X.ex∨X.s₀.heap.objs.size≤it) (h2:∀x c,X.env.cells.lookup x=some c→c≠it) (h3:∀p∈X.pn++pins,p.1≠it):Inv X pins σ H {s with heap:=h',toks:=t'}:=by
 have nit:∀b u,H b=some u→b≠it:=fun b u e z=>by rw[z,hn] at e;cases e
 refine I.step (g':=s.gens) (d':=s.drawn) (ch:=[it]) (fun b hb=>?_) (fun b o _ _ hc e _=>k b o (fun z=>hc (by simp[z])) e) (fun b o _ _ hc e _=>⟨o.slots,k b o (fun z=>hc (by simp[z])) e⟩) (fun _ _ _ _ n=>n)
  (fun b o hc e=>⟨o,k b o (fun z=>hc (by simp[z])) e⟩) (fun _ _ e=>e) (fun _ _ _ e=>e) (fun b ps e=>⟨#[],by rw[e];simp⟩) (fun m hm=>?_) (fun b u e=>?_) I.bare
 ·have e:b=it:=by simpa using hb
  subst e
  exact⟨h1,hL,h2,h3⟩
 ·obtain⟨o,es,ep,ho,r⟩:=hm
  exact⟨o,es,ep,k _ o (Ne.symm hL) ho,r⟩
 ·refine(I.hok b u e).stay (fun c v hc q=>k c v ?_ q) (fun _ q=>q) fun _ _ q=>q
  rcases hc with z | z
  ·rw[z];exact nit b u e
  ·exact nit c _ z
theorem Inv.tok(I:Inv X pins σ H s)(t:Nat):Inv X pins σ H {s with toks:=t}:=I.un (h':=s.heap) (t':=t) Un.refl I.hok
theorem Inv.kept{t':Nat}(I:Inv X pins σ H s)(k:∀b u,s.heap.get? b=some u→h'.get? b=some u):Inv X pins σ H {s with heap:=h',toks:=t'}:=I.un (Un.kept k) (I.hok.kept k)
theorem Inv.laid{a:Addr}{o:HO}{t':Nat}(I:Inv X pins σ H s)(k:∀b u,s.heap.get? b=some u→h'.get? b=some u)(hp:s.heap.objs.size≤a)(new:Ys X.prog X.w (upd H a o) h' a o):
  Inv X pins σ (upd H a o) {s with heap:=h',toks:=t'}:=I.un (Un.laid k hp (I.hok.fresh hp)) (I.hok.laid k hp new)
theorem Inv.write{x e:Addr}{o:HO}{t':Nat}(I:Inv X pins σ H s)(mu:Mut (H x))(he:e=x∨H e=some (.own x))(k:∀b u,b≠e→s.heap.get? b=some u→h'.get? b=some u)(heo:∃u,h'.get? e=some u)
  (new:Ys X.prog X.w (upd H x o) h' x o):Inv X pins σ (upd H x o) {s with heap:=h',toks:=t'}:=I.un (Un.write mu he k heo) (I.hok.write mu he k heo new)
theorem Inv.pins_of{pins':List (Addr×Obj)}(I:Inv X pins σ H s)(h:∀p∈pins',s.heap.get? p.1=some p.2∧H p.1=none∧p.1≠X.env.locals∧p.1∉X.fs∧∀v,p.2.data≠ .cell v):Inv X pins' σ H s:=
 ⟨I.ok,I.os,I.bare,I.base,I.loc,I.cell,I.free,I.freeC,fun p hp=>(List.mem_append.mp hp).elim (fun z=>I.pin p (List.mem_append_left _ z)) (h p),I.hok,I.len⟩
theorem Fu{N:List Str}(hN:N.Nodup){i j:Nat}{x:Str}(a:N[i]?=some x)(b:N[j]?=some x):i=j:=by
 obtain⟨h1,e1⟩:=List.getElem?_eq_some_iff.mp a
 obtain⟨h2,e2⟩:=List.getElem?_eq_some_iff.mp b
 exact(List.getElem_inj hN).mp (e1.trans e2.symm)
theorem Rj{M:Model}{A:Around}{E:Value→Shared→Prop}{i:Nat}{x:Str}{v:V}{u:Value}{Q:Unit→Shared→Prop}(I:Inv X pins σ H s)(hN:X.N.Nodup)(hi:X.N[i]?=some x)(hx:Loc X.env.scope x)(r:RelV v u)
  (h:∀s',Inv X pins (σ.set i (some v)) H s'→(∃a,Heap.SameBut a s.heap s'.heap∧(a=X.env.locals∨X.env.cells.lookup x=some a))→Q () s') (hf:X.fn x=true∨X.env.scope.names.lookup x=some .local:=by first | exact .inl rfl | exact .inr rfl | assumption):wpAny M A (storeName X.env x u) Q E s:=by
 obtain⟨m,hn,hl⟩:=id I.loc
 have hcls:(X.env.scope.kind== .class || (X.env.scope.kind== .module&&X.env.locals !=X.env.globals))=false:=by rw[I.ok.kind];rfl
 have hiσ:i<σ.length:=by rw[I.len];exact(List.getElem?_eq_some_iff.mp hi).1
 have cne:=I.cne
 have tracked:∀{a:Addr} {h':Heap},(∃o,s.heap.get? a=some o∧H a=none)→Heap.SameBut a s.heap h'→HOk X.prog X.w H h':=fun{a h'} ha hs b ob e=>by
  obtain⟨_,_,hfree⟩:=ha
  refine(I.hok b ob e).stay (fun c w' hc q=>(hs.2 c ?_).trans q) (fun _ q=>q) fun _ _ q=>q
  rintro rfl
  rcases hc with rfl | hc
  ·rw[hfree] at e;cases e
  ·rw[hfree] at hc;cases hc
 rcases hx with hk | hk
 ·refine wpAny_storeName_local hk hn (fun h' hn' hs=>?_) hcls
  obtain⟨oL,_,_,hoL,_⟩:=id hn
  refine h _ ⟨I.ok,I.os,I.bare,⟨fun b o e n hb hx=>?_,fun b o e n hb hx=>?_,I.base.free,fun b o e hx=>?_,I.base.tups,I.base.frzs,I.base.tbls⟩,⟨_,hn',fun j y v' e1 e2 e3=>?_⟩,fun y c e=>?_,I.free,I.freeC,fun p hp=>?_,tracked ⟨oL,hoL,I.free⟩ hs,by simpa using I.len⟩ ⟨_,hs,.inl rfl⟩
  ·exact(hs.2 b (Nat.ne_of_lt (Nat.lt_of_lt_of_le (Heap.lt_size e) I.ok.above))).trans (I.base.keep b o e n hb hx)
  ·obtain⟨sl,e1⟩:=I.base.slot b o e n hb hx
   exact⟨sl,(hs.2 b (Nat.ne_of_lt (Nat.lt_of_lt_of_le (Heap.lt_size e) I.ok.above))).trans e1⟩
  ·obtain⟨o',e1⟩:=I.base.there b o e hx
   exact⟨o',(hs.2 b (Nat.ne_of_lt (Nat.lt_of_lt_of_le (Heap.lt_size e) I.ok.above))).trans e1⟩
  ·by_cases hj:j=i
   ·subst hj
    rw[hi] at e1;cases e1
    rw[List.getElem?_set_self hiσ] at e2
    cases e2
    exact⟨u,r,.inl ⟨hk,by simp⟩⟩
   ·rw[List.getElem?_set_ne (Ne.symm hj)] at e2
    obtain⟨u',r',q⟩:=hl j y v' e1 e2 e3
    refine⟨u',r',?_⟩
    rcases q with⟨k,e⟩ | ⟨k,c,e,z⟩
    ·refine .inl ⟨k,?_⟩
     have:y≠x:=fun e=>hj (Fu hN e1 (e ▸ hi))
     simp[this,e]
    ·exact .inr ⟨k,c,e,z.sameBut hs (cne y c e)⟩
  ·obtain⟨w',z⟩:=I.cell y c e
   exact⟨w',z.sameBut hs (cne y c e)⟩
  ·obtain⟨e,n,ne,nf,d⟩:=I.pin p hp
   exact⟨(hs.2 p.1 ne).trans e,n,ne,nf,d⟩
 ·have hfn:X.fn x=true:=by
   rcases hf with z | z
   ·exact z
   ·rw[z] at hk;cases hk
  obtain⟨c,hc⟩:=I.ok.has x (.inl hk)
  obtain⟨w',z⟩:=I.cell x c hc
  refine wpAny_storeName_cell I.ok.kind hk hc z (fun h' hc' hs=>?_)
  obtain⟨oc,hoc,hocd⟩:=id z
  refine h {s with heap:=h'} ⟨I.ok,I.os,I.bare,⟨fun b o e n hb hx=>?_,fun b o e n hb hx=>?_,I.base.free,fun b o e hx=>?_,I.base.tups,I.base.frzs,I.base.tbls⟩,⟨m,hn.sameBut hs (Ne.symm (cne x c hc)),fun j y v' e1 e2 e3=>?_⟩,fun y c' e=>?_,I.free,I.freeC,fun p hp=>?_,tracked ⟨oc,hoc,I.freeC x c hc⟩ hs,by simpa using I.len⟩ ⟨c,hs,.inr hc⟩
  ·exact(hs.2 b (Nat.ne_of_lt (Nat.lt_of_lt_of_le (Heap.lt_size e) (I.ok.cab x c hfn hc)))).trans (I.base.keep b o e n hb hx)
  ·obtain⟨sl,e1⟩:=I.base.slot b o e n hb hx
   exact⟨sl,(hs.2 b (Nat.ne_of_lt (Nat.lt_of_lt_of_le (Heap.lt_size e) (I.ok.cab x c hfn hc)))).trans e1⟩
  ·obtain⟨o',e1⟩:=I.base.there b o e hx
   exact⟨o',(hs.2 b (Nat.ne_of_lt (Nat.lt_of_lt_of_le (Heap.lt_size e) (I.ok.cab x c hfn hc)))).trans e1⟩
  ·by_cases hj:j=i
   ·subst hj
    rw[hi] at e1;cases e1
    rw[List.getElem?_set_self hiσ] at e2
    cases e2
    exact⟨u,r,.inr ⟨.inl hk,c,hc,hc'⟩⟩
   ·rw[List.getElem?_set_ne (Ne.symm hj)] at e2
    obtain⟨u',r',q⟩:=hl j y v' e1 e2 e3
    refine⟨u',r',?_⟩
    rcases q with q | ⟨k,c',e,z'⟩
    ·exact .inl q
    ·refine .inr ⟨k,c',e,z'.sameBut hs ?_⟩
     rintro rfl
     exact hj (Fu hN e1 (I.ok.inj _ _ _ e hc ▸ hi))
  ·by_cases hcc:c'=c
   ·subst hcc;exact⟨_,hc'⟩
   ·obtain⟨w2,z2⟩:=I.cell y c' e
    exact⟨w2,z2.sameBut hs hcc⟩
  ·obtain⟨e,n,ne,nf,d⟩:=I.pin p hp
   refine⟨(hs.2 p.1 ?_).trans e,n,ne,nf,d⟩
   intro q
   rw[q,hoc] at e
   have q':oc=p.2:=Option.some.inj e
   exact d w' (by rw[←q'];exact hocd)
theorem Gz{M:Model}{A:Around}{E:Value→Shared→Prop}{i:Nat}{x:Str}{v:V}{u:Value}{Q:Unit→Shared→Prop}(I:Inv X pins σ H s)(hN:X.N.Nodup)(hi:X.N[i]?=some x)(hx:Loc X.env.scope x)(r:RelV v u)
  (h:∀s',Inv X pins (σ.set i (some v)) H s'→Q () s') (hf:X.fn x=true∨X.env.scope.names.lookup x=some .local:=by first | exact .inl rfl | exact .inr rfl | assumption):wpAny M A (storeName X.env x u) Q E s:=
 Rj I hN hi hx r (fun s' I' _=>h s' I') hf
theorem Inv.call'{s':Shared}{ch:List Addr}(I:Inv X pins σ H s)(ho:s'.os=s.os)(u:Un (frs X.stack) ch H H' s.heap s'.heap)(hok:HOk X.prog X.w H' s'.heap)(hg:AllBare s'.gens)
  (hch:∀b∈ch,(b∈X.ex∨X.s₀.heap.objs.size≤b)∧b≠X.env.locals∧(∀x c,X.env.cells.lookup x=some c→c≠b)∧∀p∈X.pn++pins,p.1≠b):Inv X pins σ H' s':=by
 obtain⟨h',g',d',t',o'⟩:=s'
 have e:o'=s.os:=ho
 subst e
 exact I.call (g':=g') (t':=t') (d':=d') u hok hg hch
end
abbrev XK:=Value→Option Addr→Hp→Prop
noncomputable abbrev St:=List (Option V)
abbrev VK:=V→Hp→Prop
abbrev TE:=St→Hp→VK→Prop
abbrev TT:=St→Hp→(Bool→Hp→Prop)→Prop
abbrev TA:=St→Hp→(List V→Hp→Prop)→Prop
structure Ends where
 nx:St→Hp→Prop
 rt:VK
 bk:St→Hp→Prop:=fun _ _=>False
 ct:St→Hp→Prop:=fun _ _=>False
abbrev TS:=Ends→St→Hp→Prop
def EP(X:Cx)(pins:List (Addr×Obj))(σ:St)(Q:VK)(u:Value)(s':Shared):Prop:=∃v H',Inv X pins σ H' s'∧RelV v u∧Q v H'
def TP(X:Cx)(pins:List (Addr×Obj))(σ:St)(Q:Bool→Hp→Prop)(b:Bool)(s':Shared):Prop:=∃H',Inv X pins σ H' s'∧Q b H'
def AP(X:Cx)(pins:List (Addr×Obj))(σ:St)(Q:List V→Hp→Prop)(us:List Value)(s':Shared):Prop:=∃vs H',Inv X pins σ H' s'∧Vals vs us∧Q vs H'
def SP(X:Cx)(pins:List (Addr×Obj))(D:Ends)(f:Flow)(s':Shared):Prop:=
 match f with
 | .next=>∃σ' H',Inv X pins σ' H' s'∧D.nx σ' H'
 | .brk=>∃σ' H',Inv X pins σ' H' s'∧D.bk σ' H'
 | .cont=>∃σ' H',Inv X pins σ' H' s'∧D.ct σ' H'
 | .ret u=>∃v σ' H',Inv X pins σ' H' s'∧RelV v u∧D.rt v H'
def PE(X:Cx)(e:Expr)(t:TE):Prop:=
 ∀(pins:List (Addr×Obj)) (s:Shared) (σ:St) (H:Hp) (Q:VK),Inv X pins σ H s→t σ H Q→wpAny (model X.prog X.w) X.A (eval e X.env) (EP X pins σ Q) X.xe s
def PT(X:Cx)(e:Expr)(t:TT):Prop:=
 ∀(pins:List (Addr×Obj)) (s:Shared) (σ:St) (H:Hp) (Q:Bool→Hp→Prop),Inv X pins σ H s→t σ H Q→wpAny (model X.prog X.w) X.A (isTrue e X.env (eval e X.env)) (TP X pins σ Q) X.xe s
def PW(X:Cx)(e:Expr)(t:TT):Prop:=
 ∀(whole:Sem Value) (pins:List (Addr×Obj)) (s:Shared) (σ:St) (H:Hp) (Q:Bool→Hp→Prop),Inv X pins σ H s→t σ H Q→wpAny (model X.prog X.w) X.A (isTrue e X.env whole) (TP X pins σ Q) X.xe s
theorem PW.pt{X:Cx}{e:Expr}{t:TT}(h:PW X e t):PT X e t:=h _
def PA(X:Cx)(es:List Expr)(t:TA):Prop:=
 ∀(pos:Pos) (pins:List (Addr×Obj)) (s:Shared) (σ:St) (H:Hp) (Q:List V→Hp→Prop),Inv X pins σ H s→t σ H Q→wpAny (model X.prog X.w) X.A (spliced (backTo pos (starEach es X.env))) (AP X pins σ Q) X.xe s
def PS(X:Cx)(st:Stmt)(t:TS):Prop:=
 ∀(pins:List (Addr×Obj)) (s:Shared) (σ:St) (H:Hp) (D:Ends),Inv X pins σ H s→t D σ H→wpAny (model X.prog X.w) X.A (exec st X.env) (SP X pins D) X.xe s
def PSs(X:Cx)(st:List Stmt)(t:TS):Prop:=
 ∀(pins:List (Addr×Obj)) (s:Shared) (σ:St) (H:Hp) (D:Ends),Inv X pins σ H s→t D σ H→wpAny (model X.prog X.w) X.A (execs st X.env) (SP X pins D) X.xe s
theorem thn{α:Type}{t:Sem α}{Q Q':α→Shared→Prop}{M:Model}{A:Around}{E:Value→Shared→Prop}{s:Shared}(h:wpAny M A t Q E s)(hQ:∀a s,Q a s→Q' a s):wpAny M A t Q' E s:=wpAny_mono h hQ fun _ _ x=>x
section
variable{X:Cx}
theorem bin{a b:Expr}{ta tb:TE}(ha:PE X a ta)(hb:PE X b tb){pins:List (Addr×Obj)}{s:Shared}{σ:St}{H:Hp}{R:V→V→Hp→Prop}(I:Inv X pins σ H s)(h:ta σ H fun x H1=>tb σ H1 fun y H2=>R x y H2)
  {α:Type} {Q:α→Shared→Prop} {f:Value→Value→Sem α}
  (hf:∀v u s2 x y H2,Inv X pins σ H2 s2→RelV x v→RelV y u→R x y H2→wpAny (model X.prog X.w) X.A (f v u) Q X.xe s2):
  wpAny (model X.prog X.w) X.A (eval a X.env) (fun v s₁=>wpAny (model X.prog X.w) X.A (eval b X.env) (fun u s₂=>wpAny (model X.prog X.w) X.A (f v u) Q X.xe s₂) X.xe s₁) X.xe s:=by
 refine thn (ha pins s σ H _ I h) fun v s1 zz2=>?_
 obtain⟨x,H1,I1,r1,q1⟩:=zz2
 refine thn (hb pins s1 σ H1 _ I1 q1) fun u s2 zz3=>?_
 obtain⟨y,H2,I2,r2,q2⟩:=zz3
 exact hf v u s2 x y H2 I2 r1 r2 q2
def tVar(i:Nat):TE:=fun σ H Q=>∃v,σ[i]?=some (some v)∧Q v H
def tC(v:V):TE:=fun _ H Q=>Q v H
theorem Z43{i:Nat}{x:Str}{pos:Pos}(hN:X.N[i]?=some x)(hv:Vis X.env.scope x)(hd:(x==("__debug__":Str))=false:=by decide)(hcd:(x==("__classdict__":Str))=false:=by decide):PE X (.Name x pos) (tVar i):=by
 intro pins s σ H Q I h
 obtain⟨v,e,h⟩:=h
 obtain⟨m,hn,hl⟩:=I.loc
 obtain⟨u,r,l⟩:=hl i x v hN e hv
 have fin:EP X pins σ Q u s:=⟨v,H,I,r,h⟩
 rcases l with⟨hk,hm⟩ | ⟨hk,c,hc,hcell⟩
 ·exact wpAny_Name (wpAny_loadName_local I.ok.kind hk hn hm fin) hd
 ·rcases hk with hk | hk
  ·exact wpAny_Name (wpAny_loadName_cell I.ok.kind hk hc hcell fin) hd
  ·exact wpAny_Name (wpAny_loadName_free I.ok.kind hk hc hcell fin hcd) hd
theorem Zi6{i j pos}:PE X (.Constant (.int i) j pos) (tC (.int i)):=fun _ _ _ H _ I h=>wpAny_Constant_int ⟨.int i,H,I.tok _,⟨_,rfl⟩,h⟩
theorem Y67{b j pos}:PE X (.Constant (.bool b) j pos) (tC (.bl b)):=fun _ _ _ H _ I h=>Constant_bool ⟨.bl b,H,I,rfl,h⟩
theorem Zw9{j pos}:PE X (.Constant .none j pos) (tC .non):=fun _ _ _ H _ I h=>Constant_none ⟨.non,H,I,rfl,h⟩
theorem Y42{x j pos}:PE X (.Constant (.str x) j pos) (tC (.str x)):=fun _ _ _ H _ I h=>Calls.Constant_str ⟨.str x,H,I.tok _,⟨_,rfl⟩,h⟩
def Gl(X:Cx)(x:Str):Prop:=X.env.kindOf x=some .globalImplicit
theorem Wh{E:Value→Shared→Prop}{pins:List (Addr×Obj)}{s:Shared}{σ:St}{H:Hp}{x:Str}{u:Value}{pos:Pos}{Q:Value→Shared→Prop}(I:Inv X pins σ H s)(hg:Gl X x)(hm:X.mg x=some u)(h:Q u s)
  (hd:(x==("__debug__":Str))=false:=by decide):wpAny (model X.prog X.w) X.A (eval (.Name x pos) X.env) Q E s:=
 Calls.Name_function_global I.ok.kind hg (Calls.loadGlobal_global (by rw[I.ok.glob];exact I.mod.glob.keeps I.bk) hm h) hd
theorem Sy{E:Value→Shared→Prop}{pins:List (Addr×Obj)}{s:Shared}{σ:St}{H:Hp}{x:Str}{u:Value}{pos:Pos}{Q:Value→Shared→Prop}(I:Inv X pins σ H s)(hg:Gl X x)(hm:X.mg x=none)(hv:bootBuiltins x=some u)(h:Q u s)
  (hn:x≠"__name__":=by decide) (hd:(x==("__debug__":Str))=false:=by decide):wpAny (model X.prog X.w) X.A (eval (.Name x pos) X.env) Q E s:=by
 obtain⟨mb,h1,h2⟩:=I.mod.blt
 exact Calls.Name_function_global I.ok.kind hg (Calls.loadGlobal_builtin (by rw[I.ok.glob];exact I.mod.glob.keeps I.bk) hm (by rw[I.ok.blt];exact h1.keeps I.bk) ((h2 x hn).trans hv) h) hd
theorem Zq0{x:Str}{v:V}{u:Value}{pos:Pos}(hg:Gl X x)(hm:X.mg x=some u)(r:RelV v u)(hd:(x==("__debug__":Str))=false:=by decide):PE X (.Name x pos) (tC v):=
 fun _ _ _ H _ I h=>Wh I hg hm ⟨v,H,I,r,h⟩ hd
theorem Zp8{x:Str}{v:V}{u:Value}{pos:Pos}(hg:Gl X x)(hm:X.mg x=none)(hv:bootBuiltins x=some u)(r:RelV v u)(hn:x≠"__name__":=by decide)(hd:(x==("__debug__":Str))=false:=by decide):PE X (.Name x pos) (tC v):=
 fun _ _ _ H _ I h=>Sy I hg hm hv ⟨v,H,I,r,h⟩ hn hd
variable{a b:Expr}{ta tb:TE}{pos:Pos}
variable{tA tB':TT}{rest:List Expr}
def tAnd(t u:TT):TT:=fun σ H Q=>t σ H fun c H1=>if c=true then u σ H1 Q else Q false H1
def tOr(t u:TT):TT:=fun σ H Q=>t σ H fun c H1=>if c=true then Q true H1 else u σ H1 Q
def tNot(t:TT):TT:=fun σ H Q=>t σ H fun c H1=>Q (!c) H1
theorem Zp2(ha:PT X a tA):PW X (.BoolOp .And [a] pos) tA:=by
 intro wh pins s σ H Q I h
 refine isTrue_and (thn (ha pins s σ H Q I h) fun c s1 e=>?_)
 cases c with
 | true=>exact isTrue_and_nil e
 | false=>exact e
theorem Y30(ha:PT X a tA):PW X (.BoolOp .Or [a] pos) tA:=by
 intro wh pins s σ H Q I h
 refine isTrue_or (thn (ha pins s σ H Q I h) fun c s1 e=>?_)
 cases c with
 | false=>exact isTrue_or_nil e
 | true=>exact e
theorem Zw0(ha:PT X a tA)(hb:PW X (.BoolOp .And (b::rest) pos) tB'):PW X (.BoolOp .And (a::b::rest) pos) (tAnd tA tB'):=by
 intro wh pins s σ H Q I h
 refine isTrue_and (thn (ha pins s σ H _ I h) fun c s1 zz4=>?_)
 obtain⟨H1,I1,q1⟩:=zz4
 cases c with
 | true=>exact hb wh pins s1 σ H1 Q I1 q1
 | false=>exact⟨H1,I1,q1⟩
theorem Y77(ha:PT X a tA)(hb:PW X (.BoolOp .Or (b::rest) pos) tB'):PW X (.BoolOp .Or (a::b::rest) pos) (tOr tA tB'):=by
 intro wh pins s σ H Q I h
 refine isTrue_or (thn (ha pins s σ H _ I h) fun c s1 zz5=>?_)
 obtain⟨H1,I1,q1⟩:=zz5
 cases c with
 | true=>exact⟨H1,I1,q1⟩
 | false=>exact hb wh pins s1 σ H1 Q I1 q1
theorem Zu6(ha:PT X a tA):PT X (.UnaryOp .Not a pos) (tNot tA):=by
 intro pins s σ H Q I h
 exact isTrue_not (ha pins s σ H (fun c H1=>Q (!c) H1) I h)
theorem Zv1{op}{t:TE}(h:PE X a t):PE X (.BoolOp op [a] pos) t:=fun pins s σ H Q I hw=>BoolOp_one (h pins s σ H Q I hw)
def tIf(t:TT)(ta tb:TE):TE:=fun σ H Q=>t σ H fun c H1=>if c=true then ta σ H1 Q else tb σ H1 Q
theorem Zf0{c:Expr}(hc:PT X c tA)(ha:PE X a ta)(hb:PE X b tb):PE X (.IfExp c a b pos) (tIf tA ta tb):=by
 intro pins s σ H Q I h
 refine wpAny_IfExp (thn (hc pins s σ H _ I h) fun d s1 zz6=>?_)
 obtain⟨H1,I1,q1⟩:=zz6
 cases d with
 | true=>exact ha pins s1 σ H1 Q I1 q1
 | false=>exact hb pins s1 σ H1 Q I1 q1
end
def SqL(K:PySem.W.Frag)(H:Hp)(a:Addr)(xs:List V):Prop:=
 Rd H a (.lst xs)∨
  ∃(o:Obj) (its:Array Value) (n:Nat),K.lookup a=some o∧o.cls= .type "list"∧o.dict=none∧o.data= .seq its n∧its.size≤sizeLine∧Vals xs its.toList
def SqT(K:PySem.W.Frag)(H:Hp)(a:Addr)(xs:List V):Prop:=
 Rd H a (.tup xs)∨
  ∃(o:Obj) (its:Array Value) (n:Nat),K.lookup a=some o∧o.cls= .type "tuple"∧o.data= .seq its n∧its.size≤sizeLine∧Vals xs its.toList
noncomputable def absV:Value→Option V
 | .none=>some .non
 | .bool b=>some (.bl b)
 | .int i _=>some (.int i)
 | .str x _=>some (.str x)
 | .bytes b _=>some (.byt b)
 | .float b _=>some (.flt b)
 | .ref a=>some (.ref a)
 | .type n=>some (.ty n)
 | _=>none
theorem RelV.abs{x:V}{u:Value}(r:RelV x u):absV u=some x:=by
 cases x with
 | non=>cases r;rfl
 | bl _=>cases r;rfl
 | int _=>obtain⟨t,rfl⟩:=r;rfl
 | str _=>obtain⟨t,rfl⟩:=r;rfl
 | byt _=>obtain⟨t,rfl⟩:=r;rfl
 | flt _=>obtain⟨t,rfl⟩:=r;rfl
 | ref _=>cases r;rfl
 | ty _=>cases r;rfl
theorem RelV.inj{x y:V}{u:Value}(r:RelV x u)(q:RelV y u):x=y:=Option.some.inj (r.abs.symm.trans q.abs)
theorem Vals.inj:∀{xs ys:List V} {us:List Value},Vals xs us→Vals ys us→xs=ys
 | _,_,_,.nil,.nil=>rfl
 | _,_,_,.cons r t,.cons r' t'=>by rw[r.inj r',Vals.inj t t']
section
variable{X:Cx}{pins:List (Addr×Obj)}{σ:St}{H:Hp}{s:Shared}{a:Addr}{xs ys:List V}
theorem SqL.of{K:PySem.W.Frag}(h:H a=some (.lst xs)):SqL K H a xs:= .inl (.inl h)
theorem SqT.of{K:PySem.W.Frag}(h:H a=some (.tup xs)):SqT K H a xs:= .inl (.inl h)
theorem Inv.list(I:Inv X pins σ H s)(h:SqL X.K H a xs):∃its:List Value,Vals xs its∧PlainL s.heap a its.toArray∧xs.length≤sizeLine:=by
 rcases h with h | ⟨o,its,n,hk,hc,hd,hs,hz,r⟩
 ·obtain⟨z,its,n,r,e⟩:=h.ok I.hok
  exact⟨its,r,⟨_,n,e,rfl,rfl,rfl⟩,z⟩
 ·refine⟨its.toList,r,⟨o,n,I.kIn a o hk,hc,hd,by simpa using hs⟩,?_⟩
  have e:=r.length
  simp only[Array.length_toList] at e
  omega
theorem Inv.tuple(I:Inv X pins σ H s)(h:SqT X.K H a xs):∃its:List Value,Vals xs its∧IsTup s.heap a its.toArray∧xs.length≤sizeLine:=by
 rcases h with h | ⟨o,its,n,hk,hc,hs,hz,r⟩
 ·obtain⟨z,its,r,p⟩:=h.ok I.hok
  exact⟨its,r,p,z⟩
 ·refine⟨its.toList,r,⟨o,I.kIn a o hk,hc,n,by simpa using hs⟩,?_⟩
  have e:=r.length
  simp only[Array.length_toList] at e
  omega
theorem Inv.list_inj(I:Inv X pins σ H s)(h:SqL X.K H a xs)(h':SqL X.K H a ys):xs=ys:=by
 obtain⟨its,r,⟨o,n,e,_,_,d⟩,_⟩:=I.list h
 obtain⟨its',r',⟨o',n',e',_,_,d'⟩,_⟩:=I.list h'
 rw[e] at e';cases e'
 rw[d] at d'
 injection d' with d1 _
 have:its=its':=by simpa using congrArg Array.toList d1
 subst this
 exact r.inj r'
theorem Inv.tuple_inj(I:Inv X pins σ H s)(h:SqT X.K H a xs)(h':SqT X.K H a ys):xs=ys:=by
 obtain⟨its,r,⟨o,e,_,n,d⟩,_⟩:=I.tuple h
 obtain⟨its',r',⟨o',e',_,n',d'⟩,_⟩:=I.tuple h'
 rw[e] at e';cases e'
 rw[d] at d'
 injection d' with d1 _
 have:its=its':=by simpa using congrArg Array.toList d1
 subst this
 exact r.inj r'
end
abbrev Cx.wish(X:Cx)(E:Value→Shared→Prop):Cx:={X with xe:=E}
noncomputable abbrev Cx.nox(X:Cx):Cx:=X.wish fun _ _=>False
theorem Cx.Ok.wish{X:Cx}(ok:X.Ok)(E:Value→Shared→Prop):(X.wish E).Ok:=
 ⟨ok.mod,ok.kind,ok.glob,ok.blt,ok.above,ok.inj,ok.has,ok.cab,ok.hd,ok.frames,ok.stk,ok.exf,ok.bs,ok.bsz,ok.noex,ok.exfs,ok.funs,ok.frf⟩
theorem Cx.Ok.unwish{X:Cx}{E:Value→Shared→Prop}(ok:(X.wish E).Ok):X.Ok:=
 ⟨ok.mod,ok.kind,ok.glob,ok.blt,ok.above,ok.inj,ok.has,ok.cab,ok.hd,ok.frames,ok.stk,ok.exf,ok.bs,ok.bsz,ok.noex,ok.exfs,ok.funs,ok.frf⟩
section
variable{X:Cx}{pins:List (Addr×Obj)}{σ:St}{H:Hp}{s:Shared}{E:Value→Shared→Prop}
theorem Inv.wish(I:Inv X pins σ H s)(E:Value→Shared→Prop):Inv (X.wish E) pins σ H s:=⟨I.ok.wish E,I.os,I.bare,I.base,I.loc,I.cell,I.free,I.freeC,I.pin,I.hok,I.len⟩
theorem Inv.unwish(I:Inv (X.wish E) pins σ H s):Inv X pins σ H s:=⟨I.ok.unwish,I.os,I.bare,I.base,I.loc,I.cell,I.free,I.freeC,I.pin,I.hok,I.len⟩
theorem SP.unwish{D:Ends}{f:Flow}{s':Shared}(h:SP (X.wish E) pins D f s'):SP X pins D f s':=by
 cases f with
 | next=>obtain⟨σ',H',I,q⟩:=h;exact⟨σ',H',I.unwish,q⟩
 | brk=>obtain⟨σ',H',I,q⟩:=h;exact⟨σ',H',I.unwish,q⟩
 | cont=>obtain⟨σ',H',I,q⟩:=h;exact⟨σ',H',I.unwish,q⟩
 | ret u=>obtain⟨v,σ',H',I,r,q⟩:=h;exact⟨v,σ',H',I.unwish,r,q⟩
theorem PSs.nox{st:List Stmt}{t:TS}(h:PSs X.nox st t):PSs X st t:=fun pins s σ H D I hw=>
 wpAny_mono (h pins s σ H D (I.wish _) hw) (fun _ _ q=>q.unwish) fun _ _ z=>False.elim z
end
section
variable{X:Cx}{st:Stmt}{rest:List Stmt}{t u:TS}{e:Expr}{te:TE}{pos:Pos}
def Y47:TS:=fun D σ H=>D.nx σ H
def tSeq(t u:TS):TS:=fun D σ H=>t {D with nx:=u D} σ H
theorem Z16:PSs X [] Y47:=fun _ _ σ H _ I h=>wpAny_execs_nil ⟨σ,H,I,h⟩
theorem Fw(h1:PS X st t)(h2:PSs X rest u):PSs X (st::rest) (tSeq t u):=by
 intro pins s σ H D I h
 refine wpAny_execs_cons (thn (h1 pins s σ H {D with nx:=u D} I h) fun f s1 q=>?_)
 cases f with
 | next=>
  obtain⟨σ',H',I',q⟩:=q
  exact h2 pins s1 σ' H' D I' q
 | ret v=>exact q
 | brk=>exact q
 | cont=>exact q
theorem Inv.quiet{pins:List (Addr×Obj)}{σ:St}{H:Hp}{s:Shared}(I:Inv X pins σ H s):interactive X.env=false:=by simp[interactive,I.ok.kind]
def Y60(te:TE):TS:=fun D σ H=>te σ H fun _ H1=>D.nx σ H1
theorem Zq7(he:PE X e te)(hs:swapsWith e none pos.line X.env=pure false:=by rfl):PS X (.Expr e pos) (Y60 te):=by
 intro pins s σ H D I h
 exact wpAny_Expr_any (thn (he pins s σ H _ I h) fun v s1 zz7=>by obtain⟨x,H1,I1,r1,q1⟩:=zz7;exact⟨σ,H1,I1,q1⟩) I.quiet hs
def tRet(te:TE):TS:=fun D σ H=>te σ H D.rt
theorem Zu7(he:PE X e te):PS X (.Return (some e) pos) (tRet te):=by
 intro pins s σ H D I h
 exact wpAny_Return_some (thn (he pins s σ H _ I h) fun v s1 zz8=>by obtain⟨x,H1,I1,r1,q1⟩:=zz8;exact⟨x,σ,H1,I1,r1,q1⟩)
def tIfS(c:TT)(t u:TS):TS:=fun D σ H=>c σ H fun b H1=>if b=true then t D σ H1 else u D σ H1
theorem Y71{c:Expr}{a b:List Stmt}{tc:TT}(hc:PT X c tc)(ha:PSs X a t)(hb:PSs X b u):PS X (.If c a b pos) (tIfS tc t u):=by
 intro pins s σ H D I h
 refine wpAny_If (thn (hc pins s σ H _ I h) fun d s1 zz9=>?_)
 obtain⟨H1,I1,q1⟩:=zz9
 cases d with
 | true=>exact ha pins s1 σ H1 D I1 q1
 | false=>exact hb pins s1 σ H1 D I1 q1
def Y17:TS:=fun _ _ _=>False
theorem Eb:PS X st Y17:=fun _ _ _ _ _ _ h=>h.elim
end
abbrev TG:=V→St→Hp→(St→Hp→Prop)→Prop
abbrev TGs:=List V→St→Hp→(St→Hp→Prop)→Prop
def PG(X:Cx)(target:Expr)(t:TG):Prop:=
 ∀(pins:List (Addr×Obj)) (s:Shared) (σ:St) (H:Hp) (v:V) (u:Value) (Q:St→Hp→Prop),Inv X pins σ H s→RelV v u→t v σ H Q→
  wpAny (model X.prog X.w) X.A (assign target X.env u) (fun _ s'=>∃σ' H',Inv X pins σ' H' s'∧Q σ' H') X.xe s
def PGs(X:Cx)(ts:List Expr)(t:TGs):Prop:=
 ∀(pins:List (Addr×Obj)) (s:Shared) (σ:St) (H:Hp) (vs:List V) (us:List Value) (Q:St→Hp→Prop),Inv X pins σ H s→Vals vs us→t vs σ H Q→
  wpAny (model X.prog X.w) X.A (assignInOrder ((assignEach ts X.env).map (·.2)) us) (fun _ s'=>∃σ' H',Inv X pins σ' H' s'∧Q σ' H') X.xe s
abbrev TSet:=V→V→V→Hp→(Hp→Prop)→Prop
def PSet(X:Cx)(t:TSet):Prop:=
 ∀(pins:List (Addr×Obj)) (s:Shared) (σ:St) (H:Hp) (o i v:V) (ov iv u:Value) (Q:Hp→Prop),Inv X pins σ H s→RelV o ov→RelV i iv→RelV v u→t o i v H Q→
  wpAny (model X.prog X.w) X.A (setItem ov iv u) (fun _ s'=>∃H',Inv X pins σ H' s'∧Q H') X.xe s
section
variable{X:Cx}{pos:Pos}
noncomputable def Ze7(i:Nat):TG:=fun v σ H Q=>Q (σ.set i (some v)) H
theorem Zn2{i:Nat}{x:Str}(hN:X.N.Nodup)(hi:X.N[i]?=some x)(hx:Loc X.env.scope x)(hf:X.fn x=true∨X.env.scope.names.lookup x=some .local:=by first | exact .inl rfl | exact .inr rfl | assumption):PG X (.Name x pos) (Ze7 i):=by
 intro pins s σ H v u Q I r h
 exact wpAny_assign_Name (Gz I hN hi hx r (fun s' I'=>⟨_,H,I',h⟩) hf)
noncomputable def gNil:TGs:=fun vs σ H Q=>vs=[]∧Q σ H
noncomputable def Zu8(t:TG)(u:TGs):TGs:=fun vs σ H Q=>∃v r,vs=v::r∧t v σ H fun σ' H'=>u r σ' H' Q
theorem Zq6:PGs X [] gNil:=by
 intro pins s σ H vs us Q I r h
 obtain⟨e,h⟩:=h
 subst e
 cases r
 exact assignInOrder_nil ⟨σ,H,I,h⟩
theorem Zd6{e:Expr}{es:List Expr}{t:TG}{u:TGs}(h1:PG X e t)(h2:PGs X es u)
  (hs:(assignEach (e::es) X.env).map (·.2)=assign e X.env::(assignEach es X.env).map (·.2):=by rfl):PGs X (e::es) (Zu8 t u):=by
 intro pins s σ H vs us Q I r h
 obtain⟨v,vr,e1,h⟩:=h
 subst e1
 cases r with
 | cons r rr=>
  rw[hs]
  refine assignInOrder_cons (thn (h1 pins s σ H _ _ _ I r h) fun _ s1 zz10=>?_)
  obtain⟨σ1,H1,I1,q1⟩:=zz10
  exact h2 pins s1 σ1 H1 _ _ Q I1 rr q1
noncomputable def gTup(K:PySem.W.Frag)(n:Nat)(t:TGs):TG:=fun v σ H Q=>∃a xs,v= .ref a∧SqT K H a xs∧xs.length=n∧t xs σ H Q
theorem Y27{es:List Expr}{k:Nat}{t:TGs}{n:Nat}(hc:X.calm=true)(h:PGs X es t)
  (hn:(assignEach es X.env).length=n:=by rfl) (hst:(assignEach es X.env).findIdx? (·.1)=none:=by rfl):PG X (.Tuple es k pos) (gTup X.K n t):=by
 intro pins s σ H v u Q I r hw
 obtain⟨a,xs,e1,hq,hl,hw⟩:=hw
 subst e1
 cases r
 obtain⟨its,rv,ht,hz⟩:=I.tuple hq
 refine assign_Tuple_tuple (I.ok.hd hc) ht (by simp[hn,←hl,rv.length]) hst fun h' hx=>?_
 have I1:Inv X pins σ H {s with heap:=h'}:=I.kept (t':=s.toks) fun b o e=>hx b o (Nat.ne_of_lt (Heap.lt_size e)) e
 exact h pins _ σ H xs _ Q I1 (by simpa using rv) hw
def tAsg(te:TE)(g:TG):TS:=fun D σ H=>te σ H fun x H1=>g x σ H1 D.nx
theorem Zk3{tg e:Expr}{te:TE}{g:TG}(he:PE X e te)(hg:PG X tg g)(hs:swapsWithSole [tg] e pos.line X.env=pure false:=by rfl)(hw:swappedStores [tg] e X.env=pure none:=by rfl)
  (h1:(assignEach [tg] X.env).map (·.2)=[assign tg X.env]:=by rfl):PS X (.Assign [tg] e pos) (tAsg te g):=by
 intro pins s σ H D I h
 refine wpAny_Assign_stores (thn (he pins s σ H _ I h) fun v s1 zz11=>?_) hs hw
 obtain⟨x,H1,I1,r1,q1⟩:=zz11
 rw[h1]
 exact thn (hg pins s1 σ H1 x v _ I1 r1 q1) fun _ s2 q=>q
end
section
variable{X:Cx}{pos:Pos}
def Zy7(c:TT)(tb:TS):TS:=fun D σ H=>∃W:Nat→St→Hp→Prop,(∃m,W m σ H)∧∀m σ H,W m σ H→
 c σ H fun b H1=>if b=true then ∃N:St→Hp→Prop,(∀σ' H',N σ' H'→∃m',m'<m∧W m' σ' H')∧tb {D with nx:=N,ct:=N,bk:=D.nx} σ H1 else D.nx σ H1
theorem Zb2{c:Expr}{body:List Stmt}{tc:TT}{tb:TS}(hp:PassesOwn (model X.prog X.w) X.A X.env X.xe)(hc:PT X c tc)(hb:PSs X body tb):PS X (.While c body [] pos) (Zy7 tc tb):=by
 intro pins s σ H D I h
 obtain⟨W,⟨m0,w0⟩,turn⟩:=h
 refine wpAny_While (codeAny_whileLoop (fun n s'=>∃σ' H',Inv X pins σ' H' s'∧W n σ' H') ?_ m0 ⟨σ,H,I,w0⟩)
 rintro n s1 ⟨σ1,H1,I1,w1⟩
 refine wpAny_passesOwn hp (thn (hc pins s1 σ1 H1 _ I1 (turn n σ1 H1 w1)) fun b s2 zz12=>?_)
 obtain⟨H2,I2,q2⟩:=zz12
 cases b with
 | true=>
  obtain⟨N,hN,q2⟩:=q2
  rw[if_pos rfl]
  refine wpAny_passesOwn hp (thn (hb pins s2 σ1 H2 _ I2 q2) fun f s3 q3=>?_)
  cases f with
  | next=>
   obtain⟨σ3,H3,I3,n3⟩:=q3
   obtain⟨m',hm,w3⟩:=hN σ3 H3 n3
   exact⟨m',hm,σ3,H3,I3,w3⟩
  | cont=>
   obtain⟨σ3,H3,I3,n3⟩:=q3
   obtain⟨m',hm,w3⟩:=hN σ3 H3 n3
   exact⟨m',hm,σ3,H3,I3,w3⟩
  | brk=>exact q3
  | ret v=>exact q3
 | false=>
  rw[if_neg Bool.false_ne_true]
  exact wpAny_execs_nil ⟨σ1,H2,I2,q2⟩
end
structure It where
 go:Nat→Hp→Prop
 yld:Nat→Hp→V→Hp→Prop
 stop:Nat→Hp→Prop
def FpOk(X:Cx)(pins:List (Addr×Obj))(H:Hp)(b:Addr):Prop:=
 H b=none∧b≠X.env.locals∧b∉X.fs∧(b∈X.ex∨X.s₀.heap.objs.size≤b)∧(∀x c,X.env.cells.lookup x=some c→c≠b)∧∀p∈X.pn++pins,p.1≠b
theorem Inv.fpOk{X:Cx}{pins:List (Addr×Obj)}{σ:St}{H H':Hp}{s:Shared}{b:Addr}(I:Inv X pins σ H s)(hb:s.heap.objs.size≤b)(hn:H' b=none):FpOk X pins H' b:=by
 refine⟨hn,Nat.ne_of_gt (Nat.lt_of_lt_of_le I.lt hb),I.nofs hb,.inr (Nat.le_trans I.sz hb),fun x c e z=>?_,fun p hp z=>?_⟩
 ·obtain⟨v,q⟩:=I.cell x c e
  exact absurd (Nat.lt_of_lt_of_le q.lt (by rw[z];exact hb)) (Nat.lt_irrefl _)
 ·exact absurd (Nat.lt_of_lt_of_le (Heap.lt_size (I.pin p hp).1) (by rw[z];exact hb)) (Nat.lt_irrefl _)
structure Turn(P:Program)(w:World)(K:PySem.W.Frag)(tg:Expr)(J:It)(fp:List Addr)(it:Addr)(tn:Nat→Heap→Prop):Prop where
 mem:it∈fp
 obj:∀i h,tn i h→∀b∈fp,∃o,h.get? b=some o∧∀v,o.data≠ .cell v
 keep:∀i h h',tn i h→(∀b∈fp,∀o,h.get? b=some o→h'.get? b=some o)→tn i h'
 item:∀(X:Cx),X.prog=P→X.w=w→X.K=K→X.calm=true→∀(i:Nat) (pins:List (Addr×Obj)) (s:Shared) (σ:St) (H:Hp) (E:Value→Shared→Prop),Inv X pins σ H s→(∀b∈fp,FpOk X pins H b)→tn i s.heap→J.go i H→
  wpAny (model P w) X.A (pyNext (.ref it)) (fun r s1=>∃u,r=some u∧
   wpAny (model P w) X.A (letOwnedTupleGo tg (.ref it) u) (fun _ s2=>∃x H',Inv X pins σ H' s2∧RelV x u∧J.yld i H x H'∧tn (i+1) s2.heap∧∀b∈fp,H' b=none) E s1) E s
 done:∀(X:Cx),X.prog=P→X.w=w→X.K=K→X.calm=true→∀(i:Nat) (pins:List (Addr×Obj)) (s:Shared) (σ:St) (H:Hp) (E:Value→Shared→Prop),Inv X pins σ H s→(∀b∈fp,FpOk X pins H b)→tn i s.heap→J.stop i H→
  wpAny (model P w) X.A (pyNext (.ref it)) (fun r s1=>r=none∧Inv X pins σ H s1) E s
 self:∀(A:Around) (i:Nat) (s:Shared) (Q:Value→Shared→Prop) (E:Value→Shared→Prop),tn i s.heap→Q (.ref it) s→wpAny (model P w) A (pyIter (.ref it)) Q E s
abbrev TI:=St→Hp→(It→Hp→Prop)→Prop
def PIE(X:Cx)(pins:List (Addr×Obj))(σ:St)(tg:Expr)(R:It→Hp→Prop)(itv:Value)(s2:Shared):Prop:=
 ∃(it:Addr) (fp:List Addr) (tn:Nat→Heap→Prop) (J:It) (H':Hp),itv= .ref it∧Inv X pins σ H' s2∧Turn X.prog X.w X.K tg J fp it tn∧tn 0 s2.heap∧(∀b∈fp,FpOk X pins H' b)∧R J H'
def PI(X:Cx)(tg iter:Expr)(wi:TI):Prop:=
 ∀(pins:List (Addr×Obj)) (s:Shared) (σ:St) (H:Hp) (R:It→Hp→Prop),Inv X pins σ H s→wi σ H R→
  wpAny (model X.prog X.w) X.A (eval iter X.env) (fun v s1=>wpAny (model X.prog X.w) X.A (pyIter v) (PIE X pins σ tg R) X.xe s1) X.xe s
theorem Z99{M:Model}{A:Around}{E:Value→Shared→Prop}{s:Shared}{tg:Expr}{it:Addr}{u:Value}{o:Obj}{n:String}{vs:Array Value}{Q:Unit→Shared→Prop}(ho:s.heap.get? it=some o)(hc:o.cls= .type n)(hd:o.data= .fields vs)
  (hn:["enumerate","zip","dict_itemiterator","dict_reverseitemiterator","odict_iterator","itertools.zip_longest","itertools.pairwise"].contains n=false) (hQ:Q () s):wpAny M A (letOwnedTupleGo tg (.ref it) u) Q E s:=by
 unfold letOwnedTupleGo
 cases tg<;>first
  | exact wpAny_pure hQ
  |(cases u<;>first
    | exact wpAny_pure hQ
    |(refine wpAny_bind (wpAny_load ho ?_)
      rw[hc,hd]
      show wpAny M A (if (["enumerate","zip","dict_itemiterator","dict_reverseitemiterator","odict_iterator","itertools.zip_longest","itertools.pairwise"].contains n&&vs[0]?==some (rawInt _))=true then _ else _) Q E s
      rw[if_neg (by intro h;rw[hn,Bool.false_and] at h;cases h)]
      exact wpAny_pure hQ))
noncomputable def Itl(K:PySem.W.Frag)(a:Addr):It:=
 ⟨fun i H=>∃xs x,SqL K H a xs∧xs[i]?=some x,fun i H x H'=>H'=H∧∀xs,SqL K H a xs→xs[i]?=some x,fun i H=>∃xs,SqL K H a xs∧xs.length≤i⟩
noncomputable def Itt(K:PySem.W.Frag)(a:Addr):It:=
 ⟨fun i H=>∃xs x,SqT K H a xs∧xs[i]?=some x,fun i H x H'=>H'=H∧∀xs,SqT K H a xs→xs[i]?=some x,fun i H=>∃xs,SqT K H a xs∧xs.length≤i⟩
noncomputable def Itr(lo:Int)(n:Nat):It:=⟨fun i _=>i<n,fun i H x H'=>H'=H∧x= .int (lo+i),fun i _=>n≤i⟩
theorem Bt{P:Program}{w:World}{K:PySem.W.Frag}{tg:Expr}(a it:Addr):Turn P w K tg (Itl K a) [it] it (fun i h=>h.IsListIter it a i) where
 mem:=by simp
 obj:=fun i h st b hb=>by
  have e:b=it:=by simpa using hb
  subst e
  obtain⟨o,e,c,d⟩:=st
  exact⟨o,e,fun v z=>by rw[d] at z;cases z⟩
 keep:=fun i h h' st k=>st.at fun o e=>k it (by simp) o e
 item:=by
  intro X hP hw hK hc i pins s σ H E I hf st hg
  subst hP hw hK
  obtain⟨xs,x,hq,hx⟩:=hg
  obtain⟨its,rv,p,hz⟩:=I.list hq
  obtain⟨u,hu,ru⟩:=rv.get hx
  obtain⟨f0,f1,f2,f3,f4,f5⟩:=hf it (by simp)
  refine wpAny_pyNext_list_item st p.isList (x:=u) (by simpa using hu) fun h' st' sb=>?_
  have I1:Inv X pins σ H {s with heap:=h'}:=I.turned (t':=s.toks) (fun b o hb e=>(sb.2 b hb).trans e) f0 f1 f3 f4 f5
  obtain⟨o,e,c,d⟩:=id st'
  exact⟨u,rfl,Z99 (s:={s with heap:=h'}) e c d (by decide) ⟨x,H,I1,ru,⟨rfl,fun ys hy=>by rw[I.list_inj hy hq];exact hx⟩,st',fun b hb=>(hf b hb).1⟩⟩
 done:=by
  intro X hP hw hK hc i pins s σ H E I hf st hg
  subst hP hw hK
  obtain⟨xs,hq,hx⟩:=hg
  obtain⟨its,rv,p,hz⟩:=I.list hq
  obtain⟨f0,f1,f2,f3,f4,f5⟩:=hf it (by simp)
  have hl:=rv.length
  exact wpAny_pyNext_list_end (I.ok.hd hc) st p.isList (by simp;omega) fun h' eb=>⟨rfl,I.turned (t':=s.toks) (fun b o hb e=>eb b o hb e) f0 f1 f3 f4 f5⟩
 self:=fun _ _ _ _ _ st h=>wpAny_pyIter_listiter st h
theorem B6{P:Program}{w:World}{K:PySem.W.Frag}{tg:Expr}(a it:Addr):Turn P w K tg (Itt K a) [it] it (fun i h=>h.IsTupleIter it a i) where
 mem:=by simp
 obj:=fun i h st b hb=>by
  have e:b=it:=by simpa using hb
  subst e
  obtain⟨o,e,c,d⟩:=st
  exact⟨o,e,fun v z=>by rw[d] at z;cases z⟩
 keep:=fun i h h' st k=>st.at fun o e=>k it (by simp) o e
 item:=by
  intro X hP hw hK hc i pins s σ H E I hf st hg
  subst hP hw hK
  obtain⟨xs,x,hq,hx⟩:=hg
  obtain⟨its,rv,p,hz⟩:=I.tuple hq
  obtain⟨u,hu,ru⟩:=rv.get hx
  obtain⟨f0,f1,f2,f3,f4,f5⟩:=hf it (by simp)
  refine wpAny_pyNext_tuple_item st (show s.heap.IsTuple a its.toArray from p) (x:=u) (by simpa using hu) fun h' st' sb=>?_
  have I1:Inv X pins σ H {s with heap:=h'}:=I.turned (t':=s.toks) (fun b o hb e=>(sb.2 b hb).trans e) f0 f1 f3 f4 f5
  obtain⟨o,e,c,d⟩:=id st'
  exact⟨u,rfl,Z99 (s:={s with heap:=h'}) e c d (by decide) ⟨x,H,I1,ru,⟨rfl,fun ys hy=>by rw[I.tuple_inj hy hq];exact hx⟩,st',fun b hb=>(hf b hb).1⟩⟩
 done:=by
  intro X hP hw hK hc i pins s σ H E I hf st hg
  subst hP hw hK
  obtain⟨xs,hq,hx⟩:=hg
  obtain⟨its,rv,p,hz⟩:=I.tuple hq
  obtain⟨f0,f1,f2,f3,f4,f5⟩:=hf it (by simp)
  have hl:=rv.length
  exact wpAny_pyNext_tuple_end (I.ok.hd hc) st (show s.heap.IsTuple a its.toArray from p) (by simp;omega) fun h' eb=>⟨rfl,I.turned (t':=s.toks) (fun b o hb e=>eb b o hb e) f0 f1 f3 f4 f5⟩
 self:=fun _ _ _ _ _ st h=>wpAny_pyIter_tupleiter st h
theorem C0{P:Program}{w:World}{K:PySem.W.Frag}{tg:Expr}(it:Addr)(lo:Int)(n:Nat):Turn P w K tg (Itr lo n) [it] it (fun i h=>IsRangeIter h it (lo+(i:Nat) * 1) ((n:Int) - (i:Nat)) 1) where
 mem:=by simp
 obj:=fun i h st b hb=>by
  have e:b=it:=by simpa using hb
  subst e
  exact⟨_,st,fun v z=>by
   have z':Data.fields _=Data.cell v:=z
   cases z'⟩
 keep:=fun i h h' st k=>k it (by simp) _ st
 item:=by
  intro X hP hw hK hc i pins s σ H E I hf st hg
  subst hP hw hK
  obtain⟨f0,f1,f2,f3,f4,f5⟩:=hf it (by simp)
  have W:=Walks.range (prog:=X.prog) (w:=X.w) (I.ok.hd hc) it lo 1 n
  refine W.item i s _ _ hg st fun v h' tk hv st' kk=>?_
  obtain⟨t,rfl⟩:=hv
  have I1:Inv X pins σ H {s with heap:=h',toks:=tk}:=I.turned (fun b o hb e=>kk b o (by simpa using hb) e) f0 f1 f3 f4 f5
  refine⟨_,rfl,Z99 (s:={s with heap:=h',toks:=tk}) (n:="range_iterator") st' rfl rfl (by decide) ⟨.int (lo+i),H,I1,⟨t,?_⟩,⟨rfl,rfl⟩,st',fun b hb=>(hf b hb).1⟩⟩
  rw[Int.mul_one]
 done:=by
  intro X hP hw hK hc i pins s σ H E I hf st hg
  subst hP hw hK
  obtain⟨f0,f1,f2,f3,f4,f5⟩:=hf it (by simp)
  exact wpAny_pyNext_range_end (I.ok.hd hc) st (by have:n≤i:=hg;omega) fun h' eb=>⟨rfl,I.turned (t':=s.toks) (fun b o hb e=>eb b o hb e) f0 f1 f3 f4 f5⟩
 self:=fun _ _ _ _ _ st h=>wpAny_pyIter_rangeiter st h
section
variable{X:Cx}{tg:Expr}
theorem Et{pins:List (Addr×Obj)}{σ:St}{H:Hp}{s:Shared}{R:It→Hp→Prop}{E:Value→Shared→Prop}{lo hi:Int}{t u v:Tok}{tk:Nat}(I:Inv X pins σ H s)(h1:-(2 ^ 62)≤lo)(h2:lo<2 ^ 62)(h3:-(2 ^ 62)≤hi)(h4:hi<2 ^ 62)
  (q:R (Itr lo (hi - lo).toNat) H):wpAny (model X.prog X.w) X.A (pyIter (.ref s.heap.objs.size)) (PIE X pins σ tg R) E {s with heap:=s.heap.push {cls:= .type "range",data:= .fields #[.int lo t,.int hi u,.int 1 v]},toks:=tk}:=by
 refine wpAny_pyIter_range (IsRange.new ..) (small_one h1 h2 h3 h4) ?_
 have I1:Inv X pins σ H {s with heap:=s.heap.push {cls:= .type "range",data:= .fields #[.int lo t,.int hi u,.int 1 v]},toks:=tk}:=I.kept fun b o e=>Heap.get?_push_of_some _ e
 refine⟨(s.heap.push {cls:= .type "range",data:= .fields #[.int lo t,.int hi u,.int 1 v]}).objs.size,[(s.heap.push {cls:= .type "range",data:= .fields #[.int lo t,.int hi u,.int 1 v]}).objs.size],_,_,H,rfl,
  I1.kept (t':=tk) fun b o e=>Heap.get?_push_of_some _ e,C0 _ lo (hi - lo).toNat,?_,fun b hb=>?_,q⟩
 ·have e1:lo+((0:Nat):Int) * 1=lo:=by simp
  have e2:(((hi - lo).toNat:Nat):Int) - ((0:Nat):Int)=Builtin.Range.rangeSize lo hi 1:=by rw[rangeSize_one];split<;>omega
  show IsRangeIter _ _ (lo+((0:Nat):Int) * 1) ((((hi - lo).toNat:Nat):Int) - ((0:Nat):Int)) 1
  rw[e1,e2]
  exact Heap.get?_push_size _ rfl
 ·have e:b=(s.heap.push {cls:= .type "range",data:= .fields #[.int lo t,.int hi u,.int 1 v]}).objs.size:=by simpa using hb
  subst e
  exact I1.fpOk (Nat.le_refl _) (I1.hok.fresh (Nat.le_refl _))
def Y48(ta:TA):TI:=fun σ H R=>ta σ H fun vs H1=>∃j:Int,vs=[.int j]∧ -(2 ^ 62)≤j∧j<2 ^ 62∧R (Itr 0 j.toNat) H1
def Y83(ta:TA):TI:=fun σ H R=>ta σ H fun vs H1=>∃i j:Int,vs=[.int i,.int j]∧(-(2 ^ 62)≤i∧i<2 ^ 62∧ -(2 ^ 62)≤j∧j<2 ^ 62)∧R (Itr i (j - i).toNat) H1
theorem Z96{a:Expr}{ta:TA}{p pos:Pos}(hg:Gl X "range")(hm:X.mg "range"=none)(ha:PA X [a] ta)(hs:starEach [a] X.env=[(false,eval a X.env)]:=by rfl):PI X tg (.Call (.Name "range" p) [a] [] pos) (Y48 ta):=by
 intro pins s σ H R I h
 refine Call_ (Sy I hg hm boot_range (PyProof.Rows.callWith_type1 (thn (ha pos pins s σ H _ I h) fun us s1 zz13=>?_) hs rfl))
 obtain⟨vs,H1,I1,r1,q1⟩:=zz13
 obtain⟨j,e,q1,q2,q⟩:=q1
 subst e
 cases r1 with
 | cons r rr=>
  cases rr
  obtain⟨t,rfl⟩:=r
  exact call_range_1 (Et I1 (by omega) (by omega) q1 q2 (by simpa using q))
theorem Z53{a b:Expr}{ta:TA}{p pos:Pos}(hg:Gl X "range")(hm:X.mg "range"=none)(ha:PA X [a,b] ta)(hs:starEach [a,b] X.env=[(false,eval a X.env),(false,eval b X.env)]:=by rfl)(hs2:starEach [b] X.env=[(false,eval b X.env)]:=by rfl):
  PI X tg (.Call (.Name "range" p) [a,b] [] pos) (Y83 ta):=by
 intro pins s σ H R I h
 refine Call_ (Sy I hg hm boot_range (PyProof.Rows.callWith_type1 (thn (ha pos pins s σ H _ I h) fun us s1 zz14=>?_) (by rw[hs,hs2]) (by rw[hs2];rfl)))
 obtain⟨vs,H1,I1,r1,q1⟩:=zz14
 obtain⟨i,j,e,⟨q1,q2,q3,q4⟩,q⟩:=q1
 subst e
 cases r1 with
 | cons r rr=>
  cases rr with
  | cons r' rr=>
   cases rr
   obtain⟨t,rfl⟩:=r
   obtain⟨t',rfl⟩:=r'
   exact call_range_2 (Et I1 q1 q2 q3 q4 q)
def tFor(wi:TI)(g:TG)(tb:TS):TS:=fun D σ H=>wi σ H fun J H1=>∃W:Nat→Nat→St→Hp→Prop,(∃m,W 0 m σ H1)∧∀i m σ H,W i m σ H→
 (J.stop i H∧D.nx σ H)∨(J.go i H∧∃N:St→Hp→Prop,(∀σ' H',N σ' H'→∃m',m'<m∧W (i+1) m' σ' H')∧∀x H',J.yld i H x H'→g x σ H' fun σ2 H2=>tb {D with nx:=N,ct:=N,bk:=D.nx} σ2 H2)
noncomputable def Fc(fp:List Addr)(h:Heap):List (Addr×Obj):=fp.filterMap fun b=>(h.get? b).map fun o=>(b,o)
theorem X3{fp:List Addr}{h:Heap}{b:Addr}{o:Obj}(hb:b∈fp)(e:h.get? b=some o):(b,o)∈Fc fp h:=List.mem_filterMap.mpr ⟨b,hb,by rw[e];rfl⟩
theorem Bw{fp:List Addr}{h:Heap}{p:Addr×Obj}(hp:p∈Fc fp h):p.1∈fp∧h.get? p.1=some p.2:=by
 obtain⟨b,hb,e⟩:=List.mem_filterMap.mp hp
 cases q:h.get? b with
 | none=>rw[q] at e;cases e
 | some o=>
  rw[q] at e
  have e':(b,o)=p:=Option.some.inj e
  subst e'
  exact⟨hb,q⟩
theorem Inv.pinned{pins:List (Addr×Obj)}{σ:St}{H:Hp}{s:Shared}{fp:List Addr}(I:Inv X pins σ H s)(hf:∀b∈fp,FpOk X pins H b)(ho:∀b∈fp,∃o,s.heap.get? b=some o∧∀v,o.data≠ .cell v):Inv X (pins++Fc fp s.heap) σ H s:=
 I.pins_of fun p hp=>(List.mem_append.mp hp).elim (fun z=>I.pin p (List.mem_append_right _ z)) fun z=>by
  obtain⟨hb,e⟩:=Bw z
  obtain⟨f0,f1,f2,_⟩:=hf p.1 hb
  obtain⟨o,e',d⟩:=ho p.1 hb
  rw[e] at e';cases e'
  exact⟨e,f0,f1,f2,d⟩
theorem Inv.unpinned{pins pl:List (Addr×Obj)}{σ:St}{H:Hp}{s:Shared}(I:Inv X (pins++pl) σ H s):Inv X pins σ H s:=I.pins_of fun p hp=>I.pin p (List.mem_append_right _ (List.mem_append_left _ hp))
theorem Zl1{iter:Expr}{body:List Stmt}{wi:TI}{g:TG}{tb:TS}{pos:Pos}(hp:PassesOwn (model X.prog X.w) X.A X.env X.xe)(hc:X.calm=true)(hi:PI X tg iter wi)(hg:PG X tg g)(hb:PSs X body tb)
  (hs:∀x,foldedSetIterable iter X.env x=pure x:=by intro _;rfl):PS X (.For tg iter body [] pos) (tFor wi g tb):=by
 intro pins s σ H D I h
 refine wpAny_For (thn (hi pins s σ H _ I h) fun v s1 h1=>thn h1 fun itv s2 h2=>?_) hs
 obtain⟨it,fp,tn,J,H2,e,I2,T,st2,f2,W,⟨m0,w0⟩,turn⟩:=h2
 subst e
 have stat:∀{H':Hp},(∀b∈fp,H' b=none)→∀b∈fp,FpOk X pins H' b:=fun hn b hb=>⟨hn b hb,(f2 b hb).2⟩
 refine codeAny_forLoop_any (fun n s'=>∃i σ' H',Inv X pins σ' H' s'∧tn i s'.heap∧(∀b∈fp,H' b=none)∧W i n σ' H') ?_ m0 ⟨0,σ,H2,I2,st2,fun b hb=>(f2 b hb).1,w0⟩
 rintro n s3 ⟨i,σ3,H3,I3,st3,fr3,w3⟩
 rcases turn i n σ3 H3 w3 with⟨stop,qn⟩ | ⟨go,N,hN,step⟩
 ·refine wpAny_passesOwn hp (thn (T.done X rfl rfl rfl hc i pins s3 σ3 H3 X.xe I3 (stat fr3) st3 stop) fun r s4 zz15=>?_)
  obtain⟨hr,I4⟩:=zz15
  subst hr
  exact wpAny_execs_nil ⟨σ3,H3,I4,qn⟩
 ·refine wpAny_passesOwn hp (thn (T.item X rfl rfl rfl hc i pins s3 σ3 H3 X.xe I3 (stat fr3) st3 go) fun r s4 zz16=>?_)
  obtain⟨u,hr,h4⟩:=zz16
  subst hr
  refine wpAny_passesOwn hp (thn h4 fun _ s5 zz17=>?_)
  obtain⟨x,H5,I5,r5,y5,st5,fr5⟩:=zz17
  have I5':=I5.pinned (stat fr5) (T.obj _ _ st5)
  refine wpAny_passesOwn hp (thn (hg _ s5 σ3 H5 x u _ I5' r5 (step x H5 y5)) fun _ s6 zz18=>?_)
  obtain⟨σ6,H6,I6,q6⟩:=zz18
  refine wpAny_passesOwn hp (thn (hb _ s6 σ6 H6 _ I6 q6) fun f s7 q7=>?_)
  have again:∀{σ7:St} {H7:Hp},Inv X (pins++Fc fp s5.heap) σ7 H7 s7→N σ7 H7→∃m,m<n∧∃i σ' H',Inv X pins σ' H' s7∧tn i s7.heap∧(∀b∈fp,H' b=none)∧W i m σ' H':=fun{σ7 H7} I7 n7=>by
   obtain⟨m',hm,w7⟩:=hN σ7 H7 n7
   refine⟨m',hm,i+1,σ7,H7,I7.unpinned,T.keep _ _ _ st5 fun b hb o e=>(I7.pin (b,o) (List.mem_append_right _ (List.mem_append_right _ (X3 hb e)))).1,fun b hb=>?_,w7⟩
   obtain⟨o,e,d⟩:=T.obj _ _ st5 b hb
   exact(I7.pin (b,o) (List.mem_append_right _ (List.mem_append_right _ (X3 hb e)))).2.1
  cases f with
  | next=>obtain⟨σ7,H7,I7,n7⟩:=q7;exact again I7 n7
  | cont=>obtain⟨σ7,H7,I7,n7⟩:=q7;exact again I7 n7
  | brk=>obtain⟨σ7,H7,I7,q7⟩:=q7;exact⟨σ7,H7,I7.unpinned,q7⟩
  | ret v=>obtain⟨x7,σ7,H7,I7,r7,q7⟩:=q7;exact⟨x7,σ7,H7,I7.unpinned,r7,q7⟩
end
abbrev R2:=V→V→Hp→VK→Prop
def OpR(X:Cx)(f:Value→Value→Sem Value)(r:R2):Prop:=
 ∀(pins:List (Addr×Obj)) (s:Shared) (σ:St) (H:Hp) (x y:V) (v u:Value) (Q:VK),Inv X pins σ H s→RelV x v→RelV y u→r x y H Q→
  wpAny (model X.prog X.w) X.A (f v u) (EP X pins σ Q) X.xe s
def UnR(X:Cx)(f:Value→Sem Value)(r:V→Hp→VK→Prop):Prop:=
 ∀(pins:List (Addr×Obj)) (s:Shared) (σ:St) (H:Hp) (x:V) (v:Value) (Q:VK),Inv X pins σ H s→RelV x v→r x H Q→
  wpAny (model X.prog X.w) X.A (f v) (EP X pins σ Q) X.xe s
def Vj(X:Cx)(f:Value)(r:List V→Hp→VK→Prop):Prop:=
 ∀(pins:List (Addr×Obj)) (s:Shared) (σ:St) (H:Hp) (xs:List V) (us:List Value) (Q:VK),Inv X pins σ H s→Vals xs us→r xs H Q→
  wpAny (model X.prog X.w) X.A (call f us) (EP X pins σ Q) X.xe s
def TruR(X:Cx)(r:V→Hp→(Bool→Hp→Prop)→Prop):Prop:=
 ∀(pins:List (Addr×Obj)) (s:Shared) (σ:St) (H:Hp) (x:V) (v:Value) (Q:Bool→Hp→Prop),Inv X pins σ H s→RelV x v→r x H Q→
  wpAny (model X.prog X.w) X.A (truthy v) (TP X pins σ Q) X.xe s
def tOp(r:R2)(ta tb:TE):TE:=fun σ H Q=>ta σ H fun x H1=>tb σ H1 fun y H2=>r x y H2 Q
def tUn(r:V→Hp→VK→Prop)(ta:TE):TE:=fun σ H Q=>ta σ H fun x H1=>r x H1 Q
def rI(C:Int→Int→Prop)(g:Int→Int→V):R2:=fun x y H Q=>∃i j,x= .int i∧y= .int j∧C i j∧Q (g i j) H
def rI0(g:Int→Int→V):R2:=fun x y H Q=>∃i j,x= .int i∧y= .int j∧Q (g i j) H
def rU(g:Int→V):V→Hp→VK→Prop:=fun x H Q=>∃i,x= .int i∧Q (g i) H
section
variable{X:Cx}{a b c:Expr}{ta tb tc:TE}{pos:Pos}
theorem binT(ha:PE X a ta)(hb:PE X b tb){pins:List (Addr×Obj)}{s:Shared}{σ:St}{H:Hp}{R:V→V→Hp→Prop}(I:Inv X pins σ H s)
  (h:ta σ H fun x H1=>tb σ H1 fun y H2=>R x y H2) {Q:Value→Shared→Prop} {f:Value→Value→Sem Value}
  (hf:∀v u s2 x y H2,Inv X pins σ H2 s2→RelV x v→RelV y u→R x y H2→wpAny (model X.prog X.w) X.A (f v u) Q X.xe s2):
  wpAny (model X.prog X.w) X.A (eval a X.env) (fun v s₁=>wpAny (model X.prog X.w) X.A (eval b X.env) (fun u s₂=>wpAny (model X.prog X.w) X.A (f v u) Q X.xe s₂) X.xe s₁) X.xe s:=by
 refine thn (ha pins s σ H _ I h) fun v s1 zz19=>?_
 obtain⟨x,H1,I1,r1,q1⟩:=zz19
 refine thn (hb pins s1 σ H1 _ I1 q1) fun u s2 zz20=>?_
 obtain⟨y,H2,I2,r2,q2⟩:=zz20
 exact hf v u s2 x y H2 I2 r1 r2 q2
theorem Y49{op:Operator}{r:R2}(ho:OpR X (binaryOp op) r)(ha:PE X a ta)(hb:PE X b tb):PE X (.BinOp a op b pos) (tOp r ta tb):=by
 intro pins s σ H Q I h
 exact wpAny_BinOp (binT ha hb I h fun v u s2 x y H2 I2 rx ry q=>ho pins s2 σ H2 x y v u Q I2 rx ry q)
theorem Zy3{op:UnaryOp}{r:V→Hp→VK→Prop}(ho:UnR X (unaryOp op) r)(ha:PE X a ta):PE X (.UnaryOp op a pos) (tUn r ta):=by
 intro pins s σ H Q I h
 exact UnaryOp_ (thn (ha pins s σ H _ I h) fun v s1 zz21=>by obtain⟨x,H1,I1,r1,q1⟩:=zz21;exact ho pins s1 σ H1 x v Q I1 r1 q1)
theorem opI{f:Value→Value→Sem Value}{C:Int→Int→Prop}{g:Int→Int→Int}
  (rule:∀(i j:Int) (t u:Tok) (s:Shared) (Q:Value→Shared→Prop) (E:Value→Shared→Prop),C i j→Q (.int (g i j) s.toks) {s with toks:=s.toks+1}→wpAny (model X.prog X.w) X.A (f (.int i t) (.int j u)) Q E s):
  OpR X f (rI C fun i j=> .int (g i j)):=by
 intro pins s σ H x y v u Q I rx ry h
 obtain⟨i,j,rfl,rfl,hc,q⟩:=h
 obtain⟨t,rfl⟩:=rx
 obtain⟨t',rfl⟩:=ry
 exact rule i j t t' s _ _ hc ⟨.int (g i j),H,I.tok _,⟨_,rfl⟩,q⟩
theorem opI0{f:Value→Value→Sem Value}{g:Int→Int→Int}
  (rule:∀(i j:Int) (t u:Tok) (s:Shared) (Q:Value→Shared→Prop) (E:Value→Shared→Prop),Q (.int (g i j) s.toks) {s with toks:=s.toks+1}→wpAny (model X.prog X.w) X.A (f (.int i t) (.int j u)) Q E s):
  OpR X f (rI0 fun i j=> .int (g i j)):=by
 intro pins s σ H x y v u Q I rx ry h
 obtain⟨i,j,rfl,rfl,q⟩:=h
 obtain⟨t,rfl⟩:=rx
 obtain⟨t',rfl⟩:=ry
 exact rule i j t t' s _ _ ⟨.int (g i j),H,I.tok _,⟨_,rfl⟩,q⟩
theorem opB0{f:Value→Value→Sem Value}{g:Int→Int→Bool}
  (rule:∀(i j:Int) (t u:Tok) (s:Shared) (Q:Value→Shared→Prop) (E:Value→Shared→Prop),Q (.bool (g i j)) s→wpAny (model X.prog X.w) X.A (f (.int i t) (.int j u)) Q E s):
  OpR X f (rI0 fun i j=> .bl (g i j)):=by
 intro pins s σ H x y v u Q I rx ry h
 obtain⟨i,j,rfl,rfl,q⟩:=h
 obtain⟨t,rfl⟩:=rx
 obtain⟨t',rfl⟩:=ry
 exact rule i j t t' s _ _ ⟨.bl (g i j),H,I,rfl,q⟩
def CPow(i j:Int):Prop:=0≤j∧j≤1000000∧i.natAbs<2 ^ 64
def CMul(i j:Int):Prop:=(-(2 ^ 64)<i∧i<2 ^ 64)∨(-(2 ^ 64)<j∧j<2 ^ 64)
theorem CMul.ok{i j:Int}(h:CMul i j):IntMulOk i j:=by
 rcases h with⟨h1,h2⟩ | ⟨h1,h2⟩
 ·exact .of_left (intBits_le_64 h1 h2)
 ·exact .of_right (intBits_le_64 h1 h2)
theorem Zv3:OpR X (binaryOp .Add) (rI0 fun i j=> .int (i+j)):=opI0 fun _ _ _ _ _ _ _ q=>add_int q
theorem Y26:OpR X (binaryOp .Sub) (rI0 fun i j=> .int (i - j)):=opI0 fun _ _ _ _ _ _ _ q=>sub_int q
theorem Zo2:OpR X (binaryOp .Mod) (rI (fun _ j=>j≠0) fun i j=> .int (i.fmod j)):=opI fun _ _ _ _ _ _ _ hc q=>mod_int' hc q
theorem Zv9:OpR X (binaryOp .Pow) (rI CPow fun i j=> .int (i ^ j.toNat)):=opI fun _ _ _ _ _ _ _ hc q=>pow_int_small hc.1 hc.2.1 hc.2.2 q
theorem Y40:OpR X (binaryOp .BitAnd) (rI0 fun i j=> .int (Builtin.bitAnd i j)):=opI0 fun _ _ _ _ _ _ _ q=>and_int q
theorem Zw3:OpR X (binaryOp .BitXor) (rI0 fun i j=> .int (Builtin.bitXor i j)):=opI0 fun _ _ _ _ _ _ _ q=>xor_int q
theorem unI{f:Value→Sem Value}{g:Int→Int}
  (rule:∀(i:Int) (t:Tok) (s:Shared) (Q:Value→Shared→Prop) (E:Value→Shared→Prop),Q (.int (g i) s.toks) {s with toks:=s.toks+1}→wpAny (model X.prog X.w) X.A (f (.int i t)) Q E s):
  UnR X f (rU fun i=> .int (g i)):=by
 intro pins s σ H x v Q I rx h
 obtain⟨i,rfl,q⟩:=h
 obtain⟨t,rfl⟩:=rx
 exact rule i t s _ _ ⟨.int (g i),H,I.tok _,⟨_,rfl⟩,q⟩
theorem Zl0:UnR X (unaryOp .USub) (rU fun i=> .int (-i)):=unI fun _ _ _ _ _ q=>neg_int q
end
noncomputable def scal:V→V→Bool
 | .non,.non=>true | .non,.int _=>true | .int _,.non=>true | .non,.bl _=>true | .bl _,.non=>true | .non,.str _=>true | .str _,.non=>true
 | .int _,.int _=>true | .bl _,.bl _=>true | .str _,.str _=>true | .byt _,.byt _=>true
 | .int _,.str _=>true | .str _,.int _=>true | .bl _,.str _=>true | .str _,.bl _=>true
 | _,_=>false
def rEq:R2:=fun x y H Q=>scal x y=true∧Q (.bl (decide (x=y))) H
def rNe:R2:=fun x y H Q=>scal x y=true∧Q (.bl (!decide (x=y))) H
theorem Z46{i j:Int}:decide (V.int i=V.int j)=(i==j):=by
 rw[Bool.eq_iff_iff]
 simp
theorem Zi9{i j:Bool}:decide (V.bl i=V.bl j)=(i==j):=by
 rw[Bool.eq_iff_iff]
 simp
theorem Z47{i j:Str}:decide (V.str i=V.str j)=(i==j):=by
 rw[Bool.eq_iff_iff]
 simp
theorem Br{i j:Array UInt8}:decide (V.byt i=V.byt j)=(i.toList==j.toList):=by
 rw[Bool.eq_iff_iff]
 cases i
 cases j
 simp
section
variable{X:Cx}{a b c:Expr}{ta tb tc:TE}{pos:Pos}
theorem Y1{pins:List (Addr×Obj)}{σ:St}{H:Hp}{s:Shared}{Q:VK}{k k':Bool}(I:Inv X pins σ H s)(q:Q (.bl k) H)(e:k=k'):EP X pins σ Q (.bool k') s:=by
 subst e
 exact⟨.bl k,H,I,rfl,q⟩
theorem Y57:OpR X (compareOp .Eq) rEq:=by
 intro pins s σ H x y v u Q I rx ry h
 obtain⟨hs,q⟩:=h
 cases x with
 | non=>
  cases rx
  cases y with
  | non=>cases ry;exact PySem.EqNone.eq_none_none (Y1 I q (by simp))
  | bl j=>cases ry;exact PySem.EqNone.eq_none_bool (Y1 I q (by simp))
  | int j=>obtain⟨t',rfl⟩:=ry;exact PySem.EqNone.eq_none_int (Y1 I q (by simp))
  | str j=>obtain⟨t',rfl⟩:=ry;exact PySem.EqNone.eq_none_str (Y1 I q (by simp))
  | _=>exact absurd (show false=true from hs) Bool.false_ne_true
 | bl i=>
  cases rx
  cases y with
  | non=>cases ry;exact PySem.EqNone.eq_bool_none (Y1 I q (by simp))
  | bl j=>cases ry;exact eq_bool (Y1 I q Zi9)
  | str j=>obtain⟨t',rfl⟩:=ry;exact PySem.EqMixed.eq_bool_str (Y1 I q (by simp))
  | _=>exact absurd (show false=true from hs) Bool.false_ne_true
 | int i=>
  obtain⟨t,rfl⟩:=rx
  cases y with
  | non=>cases ry;exact PySem.EqNone.eq_int_none (Y1 I q (by simp))
  | int j=>obtain⟨t',rfl⟩:=ry;exact eq_int (Y1 I q Z46)
  | str j=>obtain⟨t',rfl⟩:=ry;exact PySem.EqMixed.eq_int_str (Y1 I q (by simp))
  | _=>exact absurd (show false=true from hs) Bool.false_ne_true
 | str i=>
  obtain⟨t,rfl⟩:=rx
  cases y with
  | non=>cases ry;exact PySem.EqNone.eq_str_none (Y1 I q (by simp))
  | bl j=>cases ry;exact PySem.EqMixed.eq_str_bool (Y1 I q (by simp))
  | int j=>obtain⟨t',rfl⟩:=ry;exact PySem.EqMixed.eq_str_int (Y1 I q (by simp))
  | str j=>obtain⟨t',rfl⟩:=ry;exact eq_str (Y1 I q Z47)
  | _=>exact absurd (show false=true from hs) Bool.false_ne_true
 | byt i=>
  obtain⟨t,rfl⟩:=rx
  cases y with
  | byt j=>obtain⟨t',rfl⟩:=ry;exact PySem.W.eq_bytes (Y1 I q Br)
  | _=>exact absurd (show false=true from hs) Bool.false_ne_true
 | _=>cases y<;>exact absurd (show false=true from hs) Bool.false_ne_true
theorem Y73:OpR X (compareOp .NotEq) rNe:=by
 intro pins s σ H x y v u Q I rx ry h
 obtain⟨hs,q⟩:=h
 cases x with
 | non=>
  cases rx
  cases y with
  | non=>cases ry;exact PySem.EqNone.ne_none_none (Y1 I q (by simp))
  | bl j=>cases ry;exact PySem.EqNone.ne_none_bool (Y1 I q (by simp))
  | int j=>obtain⟨t',rfl⟩:=ry;exact PySem.EqNone.ne_none_int (Y1 I q (by simp))
  | str j=>obtain⟨t',rfl⟩:=ry;exact PySem.EqNone.ne_none_str (Y1 I q (by simp))
  | _=>exact absurd (show false=true from hs) Bool.false_ne_true
 | bl i=>
  cases rx
  cases y with
  | non=>cases ry;exact PySem.EqNone.ne_bool_none (Y1 I q (by simp))
  | bl j=>cases ry;exact ne_bool (Y1 I q (congrArg not Zi9))
  | str j=>obtain⟨t',rfl⟩:=ry;exact PySem.EqMixed.ne_bool_str (Y1 I q (by simp))
  | _=>exact absurd (show false=true from hs) Bool.false_ne_true
 | int i=>
  obtain⟨t,rfl⟩:=rx
  cases y with
  | non=>cases ry;exact PySem.EqNone.ne_int_none (Y1 I q (by simp))
  | int j=>obtain⟨t',rfl⟩:=ry;exact ne_int (Y1 I q (congrArg not Z46))
  | str j=>obtain⟨t',rfl⟩:=ry;exact PySem.EqMixed.ne_int_str (Y1 I q (by simp))
  | _=>exact absurd (show false=true from hs) Bool.false_ne_true
 | str i=>
  obtain⟨t,rfl⟩:=rx
  cases y with
  | non=>cases ry;exact PySem.EqNone.ne_str_none (Y1 I q (by simp))
  | bl j=>cases ry;exact PySem.EqMixed.ne_str_bool (Y1 I q (by simp))
  | int j=>obtain⟨t',rfl⟩:=ry;exact PySem.EqMixed.ne_str_int (Y1 I q (by simp))
  | str j=>obtain⟨t',rfl⟩:=ry;exact ne_str (Y1 I q (congrArg not Z47))
  | _=>exact absurd (show false=true from hs) Bool.false_ne_true
 | byt i=>
  obtain⟨t,rfl⟩:=rx
  cases y with
  | byt j=>obtain⟨t',rfl⟩:=ry;exact PySem.W.ne_bytes (Y1 I q (congrArg not Br))
  | _=>exact absurd (show false=true from hs) Bool.false_ne_true
 | _=>cases y<;>exact absurd (show false=true from hs) Bool.false_ne_true
theorem Y59:OpR X (compareOp .Lt) (rI0 fun i j=> .bl (decide (i<j))):=opB0 fun _ _ _ _ _ _ _ q=>lt_int q
theorem Y62:OpR X (compareOp .LtE) (rI0 fun i j=> .bl (decide (i≤j))):=opB0 fun _ _ _ _ _ _ _ q=>le_int q
theorem Y85:OpR X (compareOp .Gt) (rI0 fun i j=> .bl (decide (j<i))):=opB0 fun _ _ _ _ _ _ _ q=>gt_int q
theorem Y58:OpR X (compareOp .GtE) (rI0 fun i j=> .bl (decide (j≤i))):=opB0 fun _ _ _ _ _ _ _ q=>ge_int q
theorem Z10:OpR X (compareOp .In) (fun x y H Q=>∃i j,x= .str i∧y= .str j∧Q (.bl (!(Builtin.Str.occurrences j i 0 j.length 1).isEmpty)) H):=by
 intro pins s σ H x y v u Q I rx ry h
 obtain⟨i,j,rfl,rfl,q⟩:=h
 obtain⟨t,rfl⟩:=rx
 obtain⟨t',rfl⟩:=ry
 exact in_str (Y1 I q rfl)
theorem Rv:OpR X (compareOp .Is) (fun x y H Q=>y= .non∧Q (.bl (decide (x= .non))) H):=by
 intro pins s σ H x y v u Q I rx ry h
 obtain⟨rfl,q⟩:=h
 cases ry
 refine is_none_gen (Y1 I q ?_)
 cases x<;>first
  |(cases rx;rfl)
  |(obtain⟨t,rfl⟩:=rx;rfl)
theorem Nz:OpR X (compareOp .NotIn) (fun x y H Q=>∃i j,x= .str i∧y= .str j∧Q (.bl (!(!(Builtin.Str.occurrences j i 0 j.length 1).isEmpty))) H):=by
 intro pins s σ H x y v u Q I rx ry h
 obtain⟨i,j,rfl,rfl,q⟩:=h
 obtain⟨t,rfl⟩:=rx
 obtain⟨t',rfl⟩:=ry
 exact notIn_str (Y1 I q rfl)
theorem Zp9{op:CmpOp}{r:R2}(ho:OpR X (compareOp op) r)(ha:PE X a ta)(hb:PE X b tb)(hm:behindInMarks op b=false):PE X (.Compare a [op] [b] pos) (tOp r ta tb):=by
 intro pins s σ H Q I h
 exact wpAny_Compare1 (binT ha hb I h fun v u s2 x y H2 I2 rx ry q=>ho pins s2 σ H2 x y v u Q I2 rx ry q) hm
def Zy1(t:TE):TT:=fun σ H Q=>t σ H fun x H'=>∃k,x= .bl k∧Q k H'
theorem Zn0{op:CmpOp}{r:R2}(ho:OpR X (compareOp op) r)(ha:PE X a ta)(hb:PE X b tb)(hm:behindInMarks op b=false):PT X (.Compare a [op] [b] pos) (Zy1 (tOp r ta tb)):=by
 intro pins s σ H Q I h
 refine wpAny_isTrue_Compare1 (thn (ha pins s σ H _ I h) fun v s1 ⟨x,H1,I1,r1,q1⟩=>thn (hb pins s1 σ H1 _ I1 q1) fun u s2 ⟨y,H2,I2,r2,q2⟩=>
  thn (ho pins s2 σ H2 x y v u _ I2 r1 r2 q2) fun c s3 ⟨z,H3,I3,r3,k,e,q3⟩=>?_) hm
 subst e
 cases r3
 exact wpAny_truthy_bool ⟨H3,I3,q3⟩
def TruV(K:PySem.W.Frag)(x:V)(H:Hp)(k:Bool):Prop:=
 match x with
 | .non=>k=false
 | .bl b=>k=b
 | .int i=>k=(i !=0)
 | .str y=>y.length≤sizeLine∧k=((y.length:Int) !=0)
 | .byt y=>y.size≤sizeLine∧k=((y.size:Int) !=0)
 | .ref p=>(∃xs,SqL K H p xs∧k= !xs.isEmpty)∨(∃xs,SqT K H p xs∧k= !xs.isEmpty)∨∃kvs,H p=some (.dK kvs)∧k= !kvs.isEmpty
 | _=>False
theorem Cz{κ:Type}{kvs:List (κ×V)}{vs:List (κ×Value)}(r:KV kvs vs):(!vs.isEmpty)= !kvs.isEmpty:=by
 cases r<;>rfl
theorem Qc{xs:List V}{its:List Value}(r:Vals xs its):(!its.toArray.isEmpty)= !xs.isEmpty:=by
 cases r<;>simp
theorem Sw:(sizeLine:Nat)<2 ^ 63:=by rw[sizeLine_eq];decide
theorem E6:TruR X (fun x H Q=>∃k,TruV X.K x H k∧Q k H):=by
 intro pins s σ H x v Q I rx h
 obtain⟨k,e,q⟩:=h
 have hl:=Sw
 have hs:sizeLine=16777216:=sizeLine_eq
 cases x with
 | non=>
  cases rx
  have e':k=false:=e
  subst e'
  exact truthy_none ⟨H,I,q⟩
 | bl b=>
  cases rx
  have e':k=b:=e
  subst e'
  exact wpAny_truthy_bool ⟨H,I,q⟩
 | int i=>
  obtain⟨t,rfl⟩:=rx
  have e':k=(i !=0):=e
  subst e'
  exact PySem.P.truthy_int ⟨H,I,q⟩
 | str y=>
  obtain⟨t,rfl⟩:=rx
  obtain⟨hy,e'⟩:y.length≤sizeLine∧k=((y.length:Int) !=0):=e
  subst e'
  exact PySem.P.truthy_str (by omega) ⟨H,I.tok _,q⟩
 | byt y=>
  obtain⟨t,rfl⟩:=rx
  obtain⟨hy,e'⟩:y.size≤sizeLine∧k=((y.size:Int) !=0):=e
  subst e'
  exact PySem.W.truthy_bytes (by omega) ⟨H,I.tok _,q⟩
 | ref p=>
  cases rx
  have e':(∃xs,SqL X.K H p xs∧k= !xs.isEmpty)∨(∃xs,SqT X.K H p xs∧k= !xs.isEmpty)∨∃kvs,H p=some (.dK kvs)∧k= !kvs.isEmpty:=e
  rcases e' with⟨xs,hx,e'⟩ | ⟨xs,hx,e'⟩ | ⟨kvs,hx,e'⟩
  ·subst e'
   obtain⟨its,r,pl,hz⟩:=I.list hx
   have hlen:=r.length
   exact wpAny_truthy_list pl.isList (by simp only[List.size_toArray];omega) ⟨H,I.tok _,by rw[Qc r];exact q⟩
  ·subst e'
   obtain⟨its,r,pl,hz⟩:=I.tuple hx
   have hlen:=r.length
   exact truthy_tuple pl (by simp only[List.size_toArray];omega) ⟨H,I.tok _,by rw[Qc r];exact q⟩
  ·subst e'
   obtain⟨hz,hS,vs,r,m⟩:kvs.length≤sizeLine∧(p==sysModules)=false∧∃vs,KV kvs vs∧s.heap.DictOf (Y2 X.prog X.w) p vs:=I.hok p _ hx
   have hlen:kvs.length=vs.length:=Paired.length r
   exact wpAny_truthy_dict hS m (by omega) ⟨H,I.tok _,by rw[Cz r];exact q⟩
 | _=>exact(show False from e).elim
theorem Zg6(ha:PE X a ta)(he:∀whole,isTrue a X.env whole=(do let v ←whole;standAt a.pos;holding [v] (truthy v))):
  PT X a (fun σ H Q=>ta σ H fun x H'=>∃k,TruV X.K x H' k∧Q k H'):=by
 intro pins s σ H Q I h
 exact isTrue_plain (thn (ha pins s σ H _ I h) fun v s1 zz23=>by obtain⟨x,H1,I1,r1,q1⟩:=zz23;exact E6 pins s1 σ H1 x v Q I1 r1 q1) (he _)
theorem Co:OpR X (binaryOp .Add) (fun x y H Q=>∃i j,x= .str i∧y= .str j∧i.length+j.length≤sizeLine∧Q (.str (i++j)) H):=by
 intro pins s σ H x y v u Q I rx ry h
 obtain⟨i,j,rfl,rfl,hz,q⟩:=h
 obtain⟨t,rfl⟩:=rx
 obtain⟨t',rfl⟩:=ry
 exact add_str (fun t' tk=>⟨.str (i++j),H,I.tok _,⟨_,rfl⟩,q⟩) hz
theorem Q4{x:V}{us:List Value}(r:Vals [x] us):∃u,us=[u]∧RelV x u:=by
 cases r with
 | cons r1 r2=>cases r2;exact⟨_,rfl,r1⟩
theorem Jk{x y:V}{us:List Value}(r:Vals [x,y] us):∃u w',us=[u,w']∧RelV x u∧RelV y w':=by
 cases r with
 | cons r1 r2=>
  cases r2 with
  | cons r3 r4=>cases r4;exact⟨_,_,rfl,r1,r3⟩
theorem Z89(hc:X.calm=true):Vj X (.builtin "max") (fun xs H Q=>∃i j,xs=[.int i,.int j]∧Q (.int (if j >i then j else i)) H):=by
 intro pins s σ H xs us Q I r h
 obtain⟨i,j,rfl,q⟩:=h
 obtain⟨u,w',rfl,⟨t,rfl⟩,⟨t',rfl⟩⟩:=Jk r
 refine max_two_ints (I.ok.hd hc) fun h' tk k=>⟨_,H,I.kept k,?_,q⟩
 by_cases hj:j >i
 ·rw[if_pos hj,if_pos hj];exact⟨_,rfl⟩
 ·rw[if_neg hj,if_neg hj];exact⟨_,rfl⟩
theorem Z83(hc:X.calm=true):Vj X (.builtin "min") (fun xs H Q=>∃i j,xs=[.int i,.int j]∧Q (.int (if j<i then j else i)) H):=by
 intro pins s σ H xs us Q I r h
 obtain⟨i,j,rfl,q⟩:=h
 obtain⟨u,w',rfl,⟨t,rfl⟩,⟨t',rfl⟩⟩:=Jk r
 refine min_two_ints (I.ok.hd hc) fun h' tk k=>⟨_,H,I.kept k,?_,q⟩
 by_cases hj:j<i
 ·rw[if_pos hj,if_pos hj];exact⟨_,rfl⟩
 ·rw[if_neg hj,if_neg hj];exact⟨_,rfl⟩
end
structure ObjM(h:Heap)(x dx C:Addr)(mA:Str→Option Value):Prop where
 obj:h.get? x=some (PySem.W.instObj C dx)
 ns:h.Ns1 dx mA
 ne:dx≠x
theorem Nr{h:Heap}{dx:Addr}{mA:Str→Option Value}(n:h.Ns1 dx mA):∃od,h.get? dx=some od∧∀name,PySem.W.lookIn name od=some (mA name):=by
 obtain⟨o,es,ep,ho,hd,hk,_,hm⟩:=n
 refine⟨o,ho,fun name=>?_⟩
 have e:=hm name
 unfold nsFind findBy at e
 rw[←Array.find?_toList] at e
 unfold PySem.W.lookIn
 rw[hd]
 dsimp only
 split
 ·rename_i y q
  rw[q] at e
  exact congrArg some e
 ·rename_i q
  rw[q] at e
  have a:es.toList.any (·.refKey)=false:=by
   rw[List.any_eq_false]
   intro y hy
   obtain⟨z,t,hkey⟩:=hk y (Array.mem_toList_iff.mp hy)
   simp[DictEntry.refKey,hkey]
  have a':¬es.toList.any (·.refKey)=true:=by rw[a];exact Bool.false_ne_true
  rw[if_neg a']
  exact congrArg some e
theorem ObjM.look{h:Heap}{x dx C:Addr}{mA:Str→Option Value}(I:ObjM h x dx C mA):∃od,PySem.W.InstAt h x (PySem.W.instObj C dx) C (some od)∧∀name,PySem.W.lookIn name od=some (mA name):=
 let ⟨od,ho,hl⟩:=Nr I.ns
 ⟨od,⟨I.obj,rfl,rfl,ho⟩,hl⟩
section
variable{prog:Program}{w:World}{A:Around}{E:Value→Shared→Prop}{s:Shared}{K:PySem.W.Frag}{x dx C f:Addr}{mA:Str→Option Value}{name:Str}{v:Value}
end
theorem RelO.some_of{v:V}{o:Option Value}(r:RelO (some v) o):∃u,o=some u∧RelV v u:=by
 cases o with
 | none=>exact(show False from r).elim
 | some u=>exact⟨u,rfl,r⟩
theorem RelO.none_of{o:Option Value}(r:RelO none o):o=none:=by
 cases o with
 | none=>rfl
 | some u=>exact(show False from r).elim
section
variable{P:Program}{w:World}{H H':Hp}{h h':Heap}{a C dx:Addr}{fs fs':List (Str×V)}
theorem Zl2(hok:HOk P w H h)(e:H a=some (.ins C dx fs)):∃mA,ObjM h a dx C mA∧(∀f,RelO (fs.lookup f) (mA f))∧PySem.Within mA (fs.map (·.1))∧fs.length≤1000∧H dx=some (.own a):=by
 obtain⟨d,z,ne,ob,mA,n,r,q⟩:=(show Ys P w H h a (.ins C dx fs) from hok a _ e)
 exact⟨mA,⟨ob,n,ne⟩,r,q,z,d⟩
end
structure Cls(K:PySem.W.Frag)(C:Addr):Prop where
 pg:PySem.W.plainGet K C Str.empty=true
 hd:PySem.W.hasDictIn K C=true
 po:PySem.W.plainOver K C=true
 sa:PySem.W.findIn K (.ref C) "__setattr__"=some (some (.builtin "object.__setattr__"))
theorem Cls.get{K:PySem.W.Frag}{C:Addr}(c:Cls K C)(f:Str):PySem.W.plainGet K C f=true:=c.pg
structure Con(K:PySem.W.Frag)(C:Addr)(f:Str)(v:V)(u:Value):Prop where
 at_:PySem.W.findIn K (.ref C) f=some (some u)
 rel:RelV v u
 get:PySem.W.specialIn K u "__get__"=some none
 cp:PySem.W.copiedNames.contains f=false
structure Meth(K:PySem.W.Frag)(C:Addr)(m:Str)(f:Addr):Prop where
 at_:PySem.W.findIn K (.ref C) m=some (some (.ref f))
 fn:PySem.W.isFn K (.ref f)=true
 kp:PySem.W.keepIn K (.ref f)=true
section
variable{X:Cx}{pins:List (Addr×Obj)}{σ:St}{H:Hp}{s:Shared}{a C dx:Addr}{fs:List (Str×V)}{f:Str}{v:V}{A:Around}{E:Value→Shared→Prop}
end
section
variable{X:Cx}{o e value:Expr}{f:Str}{pos pos' tpos:Pos}{ta tv:TE}
end
section
variable{X:Cx}{pins:List (Addr×Obj)}{σ:St}{H:Hp}{s:Shared}{A:Around}{E:Value→Shared→Prop}{Q:Value→Shared→Prop}{c:Value}{b:Bool}
inductive TyOf (K:PySem.W.Frag) (H:Hp):V→Value→Prop where
 | non:TyOf K H .non (.type "NoneType")
 | bl (x:Bool):TyOf K H (.bl x) (.type "bool")
 | int (i:Int):TyOf K H (.int i) (.type "int")
 | str (x:Str):TyOf K H (.str x) (.type "str")
 | flt (x:UInt64):TyOf K H (.flt x) (.type "float")
 | lst {a:Addr} {xs:List V} (e:H a=some (.lst xs)):TyOf K H (.ref a) (.type "list")
 | frz {a:Addr} {o:Obj} {xs:List V} (e:H a=some (.frz o (.lst xs))):TyOf K H (.ref a) (.type "list")
 | tup {a:Addr} {xs:List V} (e:H a=some (.tup xs)):TyOf K H (.ref a) (.type "tuple")
 | dK {a:Addr} {kvs:List (Key×V)} (e:H a=some (.dK kvs)):TyOf K H (.ref a) (.type "dict")
 | dT {a:Addr} {kvs:List (List Key×V)} (e:H a=some (.dT kvs)):TyOf K H (.ref a) (.type "dict")
 | ins {a C dx:Addr} {fs:List (Str×V)} (e:H a=some (.ins C dx fs)) (cl:Cls K C) (ha:PySem.W.findIn K (.ref C) "__class__"=some (some (.builtin "object.__class__")))
   (hn:PySem.W.specialIn K (.builtin "object.__class__") "__get__"=some (some (.builtin "getset_descriptor.__get__"))) (htk:PySem.W.takesIn K (.builtin "object.__class__")=some true)
   (hm:PySem.W.mroIn K C (.type "object")=some true):TyOf K H (.ref a) (.ref C)
theorem Z07{x:V}{u t:Value}(I:Inv X pins σ H s)(rx:RelV x u)(ty:TyOf X.K H x t)(e:PySem.W.kitOne X.K t c=some b)(h:∀tk,Q (.bool b) {s with toks:=tk}):
  wpAny (model X.prog X.w) A (call (.builtin "isinstance") [u,c]) Q E s:=by
 cases ty with
 | non=>cases (show u=Value.none from rx);exact PySem.W.kia_one PySem.W.kitx_none I.kIn True.intro e (fun z=>nomatch z) h
 | bl y=>cases (show u=Value.bool y from rx);exact PySem.W.kia_one PySem.W.kitx_bool I.kIn True.intro e (fun z=>nomatch z) h
 | int i=>obtain⟨t,q⟩:=(show ∃t,u=Value.int i t from rx);cases q;exact PySem.W.kia_one PySem.W.kitx_int I.kIn True.intro e (fun z=>nomatch z) h
 | str y=>obtain⟨t,q⟩:=(show ∃t,u=Value.str y t from rx);cases q;exact PySem.W.kia_one PySem.W.kitx_str I.kIn True.intro e (fun z=>nomatch z) h
 | flt y=>obtain⟨t,q⟩:=(show ∃t,u=Value.float y t from rx);cases q;exact PySem.W.kia_one PySem.W.kitx_float I.kIn True.intro e (fun z=>nomatch z) h
 | @lst a xs ea=>
  cases (show u=Value.ref a from rx)
  obtain⟨_,_,n,_,h1⟩:=(show Ys X.prog X.w H s.heap a (.lst xs) from I.hok a _ ea)
  exact PySem.W.kia_one PySem.W.kitx_list I.kIn ⟨_,h1,rfl⟩ e (fun z=>nomatch z) h
 | @frz a ob xs ea=>
  cases (show u=Value.ref a from rx)
  obtain⟨_,_,_,n,_,h1⟩:=(show Ys X.prog X.w H s.heap a (.frz ob (.lst xs)) from I.hok a _ ea)
  exact PySem.W.kia_one PySem.W.kitx_list I.kIn ⟨_,h1,rfl⟩ e (fun z=>nomatch z) h
 | @tup a xs ea=>
  cases (show u=Value.ref a from rx)
  obtain⟨_,_,_,p⟩:=(show Ys X.prog X.w H s.heap a (.tup xs) from I.hok a _ ea)
  obtain⟨o,h1,h2,_⟩:=p
  exact PySem.W.kia_one PySem.W.kitx_tuple I.kIn ⟨o,h1,h2⟩ e (fun z=>nomatch z) h
 | @dK a kvs ea=>
  cases (show u=Value.ref a from rx)
  obtain⟨_,_,vs,_,p⟩:=(show Ys X.prog X.w H s.heap a (.dK kvs) from I.hok a _ ea)
  obtain⟨o,es,ep,h1,h2,_⟩:=p
  exact PySem.W.kia_one PySem.W.kitx_dict I.kIn ⟨o,h1,h2.1⟩ e (fun z=>nomatch z) h
 | @dT a kvs ea=>
  cases (show u=Value.ref a from rx)
  obtain⟨_,_,xs,_,o,es,ep,h1,h2,_⟩:=(show Ys X.prog X.w H s.heap a (.dT kvs) from I.hok a _ ea)
  exact PySem.W.kia_one PySem.W.kitx_dict I.kIn ⟨o,h1,h2.1⟩ e (fun z=>nomatch z) h
 | @ins a C dx fs ea cl ha hn htk hm=>
  cases (show u=Value.ref a from rx)
  obtain⟨mA,O,_⟩:=Zl2 I.hok ea
  obtain⟨od,J,_⟩:=O.look
  exact PySem.W.kia_one (PySem.W.kitx_own (cl.get _) cl.hd ha hn htk hm) I.kIn J e (fun z=>nomatch z) h
end
structure Room(k:Nat)(A:Around):Prop where
 hd:A.handled=none
 dp:A.depth+3 * k+5<recursionLimit
 un:A.units+16 * k+200<cLine
theorem Room.mono{j k:Nat}{A:Around}(r:Room k A)(h:j≤k):Room j A:=⟨r.hd,by have:=r.dp;omega,by have:=r.un;omega⟩
theorem Room.deeper{k:Nat}{A:Around}(r:Room (k+1) A)(env:Env):Room k (A.deeper env):=
 ⟨r.hd,by have:=r.dp;show A.depth+1+3 * k+5<_;omega,by have:=r.un;show A.units+3+16 * k+200<_;omega⟩
theorem B1{A:Around}{C:Addr}{us:List Value}{kw:List (Str×Value)}:(A.under (.builtin "type.__call__" ⟨.ref C::us,kw⟩)).depth=A.depth+1:=by
 first | rfl | simp[Around.under,Code.weight,Code.isCreation,Code.isGuard,Code.isCaller,Code.frames,Code.isFrame,guardIds]
theorem Be{A:Around}{C:Addr}{us:List Value}{kw:List (Str×Value)}:(A.under (.builtin "type.__call__" ⟨.ref C::us,kw⟩)).units=A.units+1:=by
 first | rfl | simp[Around.under,Code.cUnits,Code.frames,Code.isFrame]
theorem Room.make{k:Nat}{A:Around}(r:Room (k+1) A)(C:Addr)(us:List Value)(kw:List (Str×Value)):Room k (A.under (.builtin "type.__call__" ⟨.ref C::us,kw⟩)):=
 ⟨r.hd,by have:=r.dp;rw[B1];omega,by have:=r.un;rw[Be];omega⟩
theorem Room.depth{k:Nat}{A:Around}(r:Room k A):A.depth<recursionLimit:=by have:=r.dp;omega
theorem Room.units{k:Nat}{A:Around}(r:Room k A):A.units+64<cLine:=by have:=r.un;omega
def tNil:TA:=fun _ H Q=>Q [] H
def Zm2(ta:TE)(tr:TA):TA:=fun σ H Q=>ta σ H fun x H1=>tr σ H1 fun xs H2=>Q (x::xs) H2
section
variable{X:Cx}{e:Expr}{es:List Expr}{te:TE}{t:TA}{pos:Pos}
theorem Fl:PA X [] tNil:=fun _ _ _ _ H Q I h=>Calls.spliced_nil ⟨[],H,I,.nil,h⟩
theorem Su(ha:PE X e te)(hr:PA X es t)(hs:starEach (e::es) X.env=(false,eval e X.env)::starEach es X.env:=by rfl):PA X (e::es) (Zm2 te t):=by
 intro pos pins s σ H Q I h
 rw[hs]
 show wpAny _ _ (spliced ((false,eval e X.env)::backTo pos (starEach es X.env))) _ _ s
 refine Calls.spliced_cons (thn (ha pins s σ H _ I h) fun u s1 zz24=>?_)
 obtain⟨x,H1,I1,r1,q1⟩:=zz24
 exact thn (hr pos pins s1 σ H1 _ I1 q1) fun us s2 zz25=>by obtain⟨xs,H2,I2,r2,q2⟩:=zz25;exact⟨x::xs,H2,I2,.cons r1 r2,q2⟩
def tTup(t:TA):TE:=fun σ H Q=>t σ H fun xs H1=>xs.length≤sizeLine∧∀p,H1 p=none→Q (.ref p) (upd H1 p (.tup xs))
def tLst(t:TA):TE:=fun σ H Q=>t σ H fun xs H1=>xs.length≤sizeLine∧∀p,H1 p=none→Q (.ref p) (upd H1 p (.lst xs))
theorem Zv7{x1}(h:PA X es t):PE X (.Tuple es x1 pos) (tTup t):=by
 intro pins s σ H Q I hq
 refine wpAny_Tuple_spliced (thn (h pos pins s σ H _ I hq) fun us s1 ⟨xs,H1,I1,r,z,q⟩=>⟨by rw[←r.length];exact z,?_⟩)
 have hf:H1 s1.heap.objs.size=none:=I1.hok.fresh (Nat.le_refl _)
 refine⟨.ref s1.heap.objs.size,upd H1 s1.heap.objs.size (.tup xs),I1.laid (t':=s1.toks) (fun b u e=>Heap.get?_push_of_some _ e) (Nat.le_refl _) ?_,rfl,q _ hf⟩
 exact⟨z,us,r,⟨_,Heap.get?_push_size _ rfl,rfl,_,rfl⟩⟩
theorem Zx3(h:PA X es t):PE X (.List es pos) (tLst t):=by
 intro pins s σ H Q I hq
 refine wpAny_List_spliced (thn (h pos pins s σ H _ I hq) fun us s1 ⟨xs,H1,I1,r,z,q⟩=>⟨by rw[←r.length];exact z,?_⟩)
 have hf:H1 s1.heap.objs.size=none:=I1.hok.fresh (Nat.le_refl _)
 refine⟨.ref s1.heap.objs.size,upd H1 s1.heap.objs.size (.lst xs),I1.laid (t':=s1.toks) (fun b u e=>Heap.get?_push_of_some _ e) (Nat.le_refl _) ?_,rfl,q _ hf⟩
 exact⟨z,us,0,r,Heap.get?_push_size _ rfl⟩
end
abbrev Sp:=List V→Hp→VK→XK→Prop
abbrev CXT:=List Env→Hp→Shared→XK→Value→Shared→Prop
structure Env0(P:Program)(w:World)(K:PySem.W.Frag)(mg:Str→Option Value)(base:Heap)(A:Around)(outer:List Env)(s:Shared)(H:Hp):Prop where
 frames:A.frames=some outer
 mod:Mod K mg base
 bs:∀b o,base.get? b=some o→s.heap.get? b=some o∧H b=none
 bsz:base.objs.size≤s.heap.objs.size
 funs:s.heap.FunFrames base outer
 frf:∀b∈frs outer,H b=none
 hok:HOk P w H s.heap
 bare:AllBare s.gens
def CE(outer:List Env)(P:Program)(w:World)(H:Hp)(s:Shared)(Q:VK)(u:Value)(s':Shared):Prop:=
 ∃v H',s'.os=s.os∧AllBare s'.gens∧Un (frs outer) [] H H' s.heap s'.heap∧HOk P w H' s'.heap∧RelV v u∧Q v H'
def CR(CX:CXT)(outer:List Env)(P:Program)(w:World)(H:Hp)(s:Shared)(Q:VK)(E:XK)(r:Result)(s':Shared):Prop:=
 match r with
 | .ok (.ret u)=>CE outer P w H s Q u s'
 | .ok _=>False
 | .error e=>CX outer H s E e s'
structure FnOk(P:Program)(w:World)(K:PySem.W.Frag)(mg:Str→Option Value)(base:Heap)(CX:CXT)(k:Nat)(f:Addr)(fd:FuncData)(ps:List Str)(sp:Sp):Prop where
 len:∀vs H Q E,sp vs H Q E→vs.length=ps.length
 run:∀(A:Around) (outer:List Env) (s:Shared) (H:Hp) (args:Args) (us:List Value) (vs:List V) (Q:VK) (E:XK),Room k A→Env0 P w K mg base A outer s H→BindsTo s fd args (ps.zip us)→Vals vs us→sp vs H Q E→
  codeAny (model P w) A (.call (.ref f) args) (CR CX outer P w H s Q E) s
theorem Env0.make{P:Program}{w:World}{K:PySem.W.Frag}{mg:Str→Option Value}{base:Heap}{A:Around}{outer:List Env}{s:Shared}{H:Hp}(e:Env0 P w K mg base A outer s H)(C:Addr)(us:List Value)(kw:List (Str×Value)):
  Env0 P w K mg base (A.under (.builtin "type.__call__" ⟨.ref C::us,kw⟩)) outer s H:=⟨by first | exact e.frames | (simpa[Around.under,Code.envs,Code.isFrame,pushEnvs] using e.frames),e.mod,e.bs,e.bsz,e.funs,e.frf,e.hok,e.bare⟩
section
variable{X:Cx}{pins:List (Addr×Obj)}{σ:St}{H:Hp}{s s':Shared}
theorem Inv.env0(I:Inv X pins σ H s):Env0 X.prog X.w X.K X.mg X.base X.A X.stack s H:=
 ⟨I.ok.frames,I.ok.mod,I.bs,Nat.le_trans I.ok.bsz I.sz,I.stack,I.stkFree,I.hok,I.bare⟩
theorem Inv.after{Q:VK}{u:Value}(I:Inv X pins σ H s)(h:CE X.stack X.prog X.w H s Q u s'):EP X pins σ Q u s':=by
 obtain⟨v,H',os,bare,un,hok,r,q⟩:=h
 obtain⟨hh,g,d,t,os'⟩:=s'
 obtain rfl:os'=s.os:=os
 exact⟨v,H',I.call (h':=hh) (g':=g) (d':=d) (t':=t) (ch:=[]) un hok bare (fun b z=>absurd z (by simp)),r,q⟩
end
def Y24(sp:Sp)(dvs:List V)(E:XK)(t:TA):TE:=fun σ H Q=>t σ H fun vs H1=>sp (vs++dvs) H1 Q E
def Zr(K:PySem.W.Frag)(fd:FuncData)(ps:List Str)(ds:List Value):Prop:=
 ∀(s:Shared) (us:List Value),K.In s.heap→(us++ds).length=ps.length→BindsTo s fd ⟨us,[]⟩ (ps.zip (us++ds))
theorem Zr.all{K:PySem.W.Frag}{fd:FuncData}{ps:List Str}(h:∀us:List Value,us.length=ps.length→bindArgs fd ⟨us,[]⟩=pure (ps.zip us)):Zr K fd ps []:=fun s us _ hl=>by
 rw[List.append_nil] at hl ⊢
 exact .of_eq (h us hl)
def Nj(CX:CXT)(X:Cx)(E:XK):Prop:=∀(pins:List (Addr×Obj)) (σ:St) (H:Hp) (s:Shared) (e:Value) (s':Shared),Inv X pins σ H s→CX X.stack H s E e s'→X.xe e s'
section
variable{X:Cx}{CX:CXT}{k:Nat}{f C:Addr}{fd:FuncData}{ps:List Str}{sp:Sp}{dvs:List V}{ds:List Value}{E:XK}{x m:Str}{p pos apos:Pos}{e o:Expr}{es:List Expr}{ta:TE}{t:TA}
theorem Zj6{pins:List (Addr×Obj)}{σ:St}{H:Hp}{s:Shared}{Q:VK}{us:List Value}{vs:List V}(F:FnOk X.prog X.w X.K X.mg X.base CX k f fd ps sp)(hr:Room k X.A)(hb:Zr X.K fd ps ds)(hd:Vals dvs ds)(hx:Nj CX X E)
  (I:Inv X pins σ H s) (r:Vals vs us) (h:sp (vs++dvs) H Q E):wpAny (model X.prog X.w) X.A (call (.ref f) us) (EP X pins σ Q) X.xe s:=by
 have r2:Vals (vs++dvs) (us++ds):=r.append hd
 have hl:(us++ds).length=ps.length:=by rw[←r2.length];exact F.len _ _ _ _ h
 refine wpAny_call (codeAny_mono (F.run X.A X.stack s H ⟨us,[]⟩ (us++ds) (vs++dvs) Q E hr I.env0 (hb s us I.kIn hl) r2 h) fun r s' hq=>?_)
 cases r with
 | error e=>exact hx pins σ H s e s' I hq
 | ok fl=>
  cases fl with
  | ret u=>exact I.after hq
  | next=>exact False.elim hq
  | brk=>exact False.elim hq
  | cont=>exact False.elim hq
theorem Zp7(F:FnOk X.prog X.w X.K X.mg X.base CX k f fd ps sp)(hr:Room k X.A)(hg:Gl X x)(hm:X.mg x=some (.ref f))(hk:PySem.W.keepIn X.K (.ref f)=true)(hb:Zr X.K fd ps ds)(hd:Vals dvs ds)(hx:Nj CX X E)
  (ha:PA X (e::es) t) (hdb:(x==("__debug__":Str))=false:=by decide) (he:starEach (e::es) X.env=(false,eval e X.env)::starEach es X.env:=by rfl) (hpl:(backTo pos (starEach es X.env)).any (·.1)=false:=by rfl):
  PE X (.Call (.Name x p) (e::es) [] pos) (Y24 sp dvs E t):=by
 intro pins s σ H Q I h
 refine wpAny_Call_Name_kw (Wh I hg hm ?_ hdb)
 refine PySem.W.callWith_K (h₀:=X.base) I.ok.mod.kin hk (thn (ha pos pins s σ H _ I h) fun us s1 ⟨vs,H1,I1,r,q⟩=>⟨I1.kIn,?_⟩) he hpl
 exact Zj6 F hr hb hd hx I1 r q
theorem Za3(F:FnOk X.prog X.w X.K X.mg X.base CX k f fd ps sp)(hr:Room k X.A)(hg:Gl X x)(hm:X.mg x=some (.ref f))(hk:PySem.W.keepIn X.K (.ref f)=true)(hb:Zr X.K fd ps ds)(hd:Vals dvs ds)(hx:Nj CX X E)
  (hdb:(x==("__debug__":Str))=false:=by decide):PE X (.Call (.Name x p) [] [] pos) (Y24 sp dvs E tNil):=by
 intro pins s σ H Q I h
 refine wpAny_Call_Name_kw (Wh I hg hm ?_ hdb)
 exact PySem.W.callWith_K0 I.kIn hk (Zj6 (us:=[]) F hr hb hd hx I .nil h)
structure Mk(K:PySem.W.Frag)(C f:Addr):Prop where
 makes:PySem.W.makesIn K C=true
 init:PySem.W.findIn K (.ref C) "__init__"=some (some (.ref f))
 fn:PySem.W.isFn K (.ref f)=true
 kp:PySem.W.keepIn K (.ref C)=true
end
def PK(X:Cx)(kws:List Keyword)(t:TA):Prop:=
 ∀(pos:Pos) (pins:List (Addr×Obj)) (s:Shared) (σ:St) (H:Hp) (Q:List V→Hp→Prop),Inv X pins σ H s→t σ H Q→wpAny (model X.prog X.w) X.A (evalAll ((backToKw pos (keywordEach kws X.env)).map (·.2))) (AP X pins σ Q) X.xe s
section
variable{X:Cx}{CX:CXT}{k:Nat}{f C:Addr}{fd:FuncData}{ps ks:List Str}{sp:Sp}{E:XK}{x m:Str}{p pos apos kpos:Pos}{e o:Expr}{es:List Expr}{kws:List Keyword}{te ta:TE}{t tk:TA}{nm:Option Str}
theorem Zv2:PK X [] tNil:=fun _ _ _ _ H Q I h=>wpAny_evalAll_nil ⟨[],H,I,.nil,h⟩
theorem Zt0(ha:PE X e te)(hr:PK X kws t):PK X (⟨nm,e,kpos⟩::kws) (Zm2 te t):=by
 intro pos pins s σ H Q I h
 show wpAny _ _ (evalAll ((do let v ←eval e X.env;standAt pos;pure v)::(backToKw pos (keywordEach kws X.env)).map (·.2))) _ _ s
 refine wpAny_evalAll_cons (wpAny_bind (thn (ha pins s σ H _ I h) fun u s1 ⟨x,H1,I1,r1,q1⟩=>wpAny_bind (wpAny_standAt (wpAny_pure ?_))))
 exact thn (hr pos pins s1 σ H1 _ I1 q1) fun us s2 zz30=>by obtain⟨xs,H2,I2,r2,q2⟩:=zz30;exact⟨x::xs,H2,I2,.cons r1 r2,q2⟩
structure KBinds(K:PySem.W.Frag)(fd:FuncData)(ps ks:List Str)(g:List Value→List Value→List Value)(gV:List V→List V→List V):Prop where
 to:∀(s:Shared) (us ws:List Value),K.In s.heap→(g us ws).length=ps.length→BindsTo s fd ⟨us,ks.zip ws⟩ (ps.zip (g us ws))
 rel:∀{vs:List V} {us:List Value} {zs:List V} {ws:List Value},Vals vs us→Vals zs ws→Vals (gV vs zs) (g us ws)
variable{g:List Value→List Value→List Value}{gV:List V→List V→List V}
end
structure FnScope(N P:List Str)(sc:Scope):Prop where
 kind:sc.kind= .function
 co:sc.isCoroutine=false
 gen:sc.isGenerator=false
 nd:N.Nodup
 pre:N.take P.length=P
 par:∀x∈P,sc.names.lookup x=some .local∨sc.names.lookup x=some .cell
 nofree:∀y∈sc.names,y.2≠ .free
theorem Nf{kindOf:Str→Option NameKind}{x:Str}:∀{binds:List (Str×Value)} {m:Str→Option Value},(∀v,(x,v)∉binds)→bindL kindOf binds m x=m x
 | [],_,_=>rfl
 |(n,v)::r,m,h=>by
  unfold bindL
  rw[Nf fun w hw=>h w (List.mem_cons_of_mem _ hw)]
  split
  ·have:x≠n:=by rintro rfl;exact h v List.mem_cons_self
   simp[this]
  ·rfl
theorem J7{kindOf:Str→Option NameKind}{x:Str}:∀{binds:List (Str×Value)} {m:Str→Option Value},(∀v,(x,v)∉binds)→bindC kindOf binds m x=m x
 | [],_,_=>rfl
 |(n,v)::r,m,h=>by
  unfold bindC
  rw[J7 fun w hw=>h w (List.mem_cons_of_mem _ hw)]
  split
  ·rfl
  ·have:x≠n:=by rintro rfl;exact h v List.mem_cons_self
   simp[this]
theorem Ot{kindOf:Str→Option NameKind}{x:Str}{v:Value}:∀{P:List Str} {vs:List Value} {i:Nat} {m:Str→Option Value},P.Nodup→P[i]?=some x→vs[i]?=some v→kindOf x=some .local→
  bindL kindOf (P.zip vs) m x=some v
 | [],_,_,_,_,h,_,_=>by simp at h
 | _::_,[],_,_,_,_,h,_=>by simp at h
 | p::P,w::vs,0,m,nd,h1,h2,hk=>by
  simp at h1 h2;subst h1;subst h2
  show bindL kindOf ((p,w)::P.zip vs) m p=_
  unfold bindL
  rw[Nf fun v hv=>(List.nodup_cons.mp nd).1 (List.of_mem_zip hv).1,if_pos hk]
  simp
 | p::P,w::vs,i+1,m,nd,h1,h2,hk=>by
  show bindL kindOf ((p,w)::P.zip vs) m x=_
  unfold bindL
  exact Ot (i:=i) (List.nodup_cons.mp nd).2 (by simpa using h1) (by simpa using h2) hk
theorem Oo{kindOf:Str→Option NameKind}{x:Str}{v:Value}:∀{P:List Str} {vs:List Value} {i:Nat} {m:Str→Option Value},P.Nodup→P[i]?=some x→vs[i]?=some v→kindOf x≠some .local→
  bindC kindOf (P.zip vs) m x=some v
 | [],_,_,_,_,h,_,_=>by simp at h
 | _::_,[],_,_,_,_,h,_=>by simp at h
 | p::P,w::vs,0,m,nd,h1,h2,hk=>by
  simp at h1 h2;subst h1;subst h2
  show bindC kindOf ((p,w)::P.zip vs) m p=_
  unfold bindC
  rw[J7 fun v hv=>(List.nodup_cons.mp nd).1 (List.of_mem_zip hv).1,if_neg hk]
  simp
 | p::P,w::vs,i+1,m,nd,h1,h2,hk=>by
  show bindC kindOf ((p,w)::P.zip vs) m x=_
  unfold bindC
  exact Oo (i:=i) (List.nodup_cons.mp nd).2 (by simpa using h1) (by simpa using h2) hk
noncomputable def start(N:List Str)(vs:List V):St:=vs.map some++List.replicate (N.length - vs.length) none
def cxOf(CX:CXT)(P:Program)(w:World)(K:PySem.W.Frag)(mg:Str→Option Value)(base:Heap)(N:List Str)(qual:Str)(scope:Scope)(f:Addr)(cd:Value)(A:Around)(outer:List Env)(s:Shared)(H:Hp)(E:XK):Cx where
 prog:=P
 w:=w
 K:=K
 mg:=mg
 base:=base
 A:=A.deeper (envOfC qual scope s.heap.objs.size f cd)
 N:=N
 s₀:=s
 H₀:=H
 env:=envOfC qual scope s.heap.objs.size f cd
 outer:=outer
 stack:=envOfC qual scope s.heap.objs.size f cd::outer
 ex:=[]
 calm:=true
 fn:=fun _=>true
 pn:=[]
 xe:=fun e s'=>wpAny (model P w) (A.deeper (envOfC qual scope s.heap.objs.size f cd)) (leaving (envOfC qual scope s.heap.objs.size f cd) e) (fun _ s''=>CX outer H s E e s'') (fun e' s''=>CX outer H s E e' s'') s'
theorem Fp{sc:Scope}{n:Nat}{x:Str}(h:sc.names.lookup x=some .cell):∃c,(cellsFrom n sc.names []).lookup x=some c:=by
 have q:=PySem.W.cellsFrom_some sc.names n [] (.inl h)
 exact Option.isSome_iff_exists.mp q
theorem Z64{CX:CXT}{P:Program}{w:World}{K:PySem.W.Frag}{mg:Str→Option Value}{base:Heap}{N ps:List Str}{qual:Str}{scope:Scope}{f:Addr}{cd:Value}{A:Around}{outer:List Env}{s s1:Shared}{H:Hp}{E:XK}{us:List Value}{vs:List V}
  (S:FnScope N ps scope) (hd:A.handled=none) (e0:Env0 P w K mg base A outer s H) (hl:vs.length=ps.length) (r:Vals vs us)
  (x:InCallC s s.heap.objs.size (bindL (envOfC qual scope s.heap.objs.size f cd).kindOf (ps.zip us) fun _=>none) (cellsFrom (s.heap.objs.size+1) scope.names []) (bindC (envOfC qual scope s.heap.objs.size f cd).kindOf (ps.zip us) fun _=>none) s1):
  Inv (cxOf CX P w K mg base N qual scope f cd A outer s H E) [] (start N vs) H s1:=by
 have hpl:ps.length≤N.length:=by have:=congrArg List.length S.pre;rw[List.length_take] at this;omega
 obtain⟨h1,tk,rfl,hk⟩:=x.done
 have noA:∀b:Addr,b∉(cxOf CX P w K mg base N qual scope f cd A outer s H E).ex:=fun b z=>absurd (show b∈([]:List Addr) from z) (by simp)
 refine⟨⟨e0.mod,S.kind,rfl,rfl,Nat.le_refl _,fun y z c h1 h2=>?_,fun y hy=>?_,fun y c _ h=>?_,fun _=>hd,Around.frames_deeper e0.frames,.inr ⟨rfl,rfl⟩,fun b z=>absurd z (noA b),e0.bs,e0.bsz,fun b _ _=>noA b,fun b z=>absurd z (noA b),e0.funs,e0.frf⟩,
  rfl,e0.bare,Un.kept hk,⟨_,x.toInCall.ns,fun i y v h1 h2 h3=>?_⟩,fun y c h=>⟨_,x.cell y c h⟩,e0.hok.fresh (Nat.le_refl _),fun y c h=>?_,fun p hp=>absurd (show p∈([]:List (Addr×Obj)) from hp) (by simp),e0.hok.kept hk,?_⟩
 ·exact name_of_addr x.apart (PySem.mem_of_lookup h1) (PySem.mem_of_lookup h2)
 ·have hy:scope.names.lookup y=some .cell∨scope.names.lookup y=some .free:=hy
  rcases hy with hy | hy
  ·exact Fp hy
  ·exact absurd rfl (S.nofree _ (PySem.mem_of_lookup hy))
 ·exact Nat.le_of_lt (x.above y c (PySem.mem_of_lookup h))
 ·have hi:i<vs.length:=by
   unfold start at h2
   by_cases hi:i<vs.length
   ·exact hi
   ·rw[List.getElem?_append_right (by simpa using hi)] at h2
    rw[List.getElem?_replicate] at h2
    split at h2<;>cases h2
  have ha:vs[i]?=some v:=by
   unfold start at h2
   rw[List.getElem?_append_left (by simpa using hi),List.getElem?_map] at h2
   cases e:vs[i]? with
   | none=>rw[e] at h2;cases h2
   | some a=>rw[e] at h2;cases h2;rfl
  obtain⟨u,hu,rv⟩:=r.get ha
  have hp:ps[i]?=some y:=by
   rw[←S.pre,List.getElem?_take_of_lt (by omega)];exact h1
  have ndP:ps.Nodup:=by rw[←S.pre];exact S.nd.sublist (List.take_sublist _ _)
  refine⟨u,rv,?_⟩
  rcases S.par y (List.mem_of_getElem? hp) with k | k
  ·exact .inl ⟨k,Ot ndP hp hu k⟩
  ·obtain⟨c,e⟩:=Fp (n:=s.heap.objs.size+1) k
   refine .inr ⟨.inl k,c,e,?_⟩
   have q:=x.cell y c e
   rw[Oo ndP hp hu (by show scope.names.lookup y≠_;rw[k];decide)] at q
   exact q
 ·exact e0.hok.fresh (Nat.le_of_lt (x.above y c (PySem.mem_of_lookup h)))
 ·unfold start
  show _=N.length
  rw[List.length_append,List.length_map,List.length_replicate]
  omega
theorem Zu0{CX:CXT}{P:Program}{w:World}{K:PySem.W.Frag}{mg:Str→Option Value}{base:Heap}{k:Nat}{f:Addr}{name qual:Str}{params:Arguments}{body:List Stmt}{scope:Scope}{dV kV doc pm cdv ct oc:Value}{an od:Option Addr}
  {osl:Array (Option Value)} {N ps:List Str} {sp:Sp} (lk:K.lookup f=some ⟨oc,od,.func (PySem.W.fnOf name qual params body scope dV kV doc pm an cdv ct),osl⟩) (hcd:PySem.W.codeIn K cdv qual=true) (S:FnScope N ps scope)
  (len:∀vs H Q E,sp vs H Q E→vs.length=ps.length)
  (hbody:∀(A:Around) (outer:List Env) (s:Shared) (H:Hp) (vs:List V) (Q:VK) (E:XK),Room k (A.deeper (envOfC qual scope s.heap.objs.size f cdv))→sp vs H Q E→
   ∃t,PSs (cxOf CX P w K mg base N qual scope f cdv A outer s H E) body t∧t {nx:=fun _ H'=>Q .non H',rt:=Q} (start N vs) H):
  FnOk P w K mg base CX (k+1) f (PySem.W.fnOf name qual params body scope dV kV doc pm an cdv ct) ps sp:=by
 refine⟨len,fun A outer s H args us vs Q E hr e0 hb r hsp=>?_⟩
 have hl:=len _ _ _ _ hsp
 have KX:K.In s.heap:=e0.mod.kin.keeps fun b o e=>(e0.bs b o e).1
 have lim:s.heap.NoLimit:=e0.mod.nolimit.keeps fun b o e=>(e0.bs b o e).1
 have hkind:∀y∈ps.zip us,scope.names.lookup y.1=some .local∨(scope.names.lookup y.1=some .cell∧((cellsFrom (s.heap.objs.size+1) scope.names []).lookup y.1).isSome=true):=fun⟨n,v⟩ hy=>by
  rcases S.par n (List.of_mem_zip hy).1 with q | q
  ·exact .inl q
  ·exact .inr ⟨q,PySem.W.cellsFrom_some _ _ _ (.inl q)⟩
 refine codeAny_call_function hr.depth (KX _ _ lk) rfl S.co S.gen rfl (PySem.W.codeRec_of KX hcd) (hb _ _ _ _ ?_)
 refine wpAny_newFunctionEnv_cells S.kind hkind fun env he s1 x=>?_
 subst he
 refine⟨lim.keeps x.toInCall.keep,codeAny_func ?_⟩
 obtain⟨t,ht,hq⟩:=hbody A outer s H vs Q E (hr.deeper _) hsp
 have I:Inv (cxOf CX P w K mg base N qual scope f cdv A outer s H E) [] (start N vs) H s1:=Z64 S hr.hd e0 hl r x
 refine wpAny_mono (ht [] s1 (start N vs) H _ I hq) (fun fl s' hs=>?_) fun e s' hs=>hs
 have fin:∀{σ':St} {H':Hp} {v:V} {u:Value},Inv (cxOf CX P w K mg base N qual scope f cdv A outer s H E) [] σ' H' s'→RelV v u→Q v H'→CE outer P w H s Q u s':=
  fun{σ' H' v u} J rv q=>⟨v,H',J.os,J.bare,J.base,J.hok,rv,q⟩
 cases fl with
 | ret u=>
  obtain⟨v,σ',H',J,rv,q⟩:=hs
  exact fin J rv q
 | next=>
  obtain⟨σ',H',J,q⟩:=hs
  exact fin (v:=V.non) (u:=Value.none) J rfl q
 | brk=>
  obtain⟨_,_,_,q⟩:=hs
  exact False.elim q
 | cont=>
  obtain⟨_,_,_,q⟩:=hs
  exact False.elim q
section
variable{X:Cx}{x:Str}{p pos:Pos}{e:Expr}{es:List Expr}{t:TA}{id T:String}{r:List V→Hp→VK→Prop}
def tCB(r:List V→Hp→VK→Prop)(t:TA):TE:=fun σ H Q=>t σ H fun vs H1=>r vs H1 Q
theorem Ze1(hc:Vj X (.builtin id) r)(hg:Gl X x)(hm:X.mg x=none)(hv:bootBuiltins x=some (.builtin id))(ha:PA X (e::es) t)(hn:x≠"__name__":=by decide)(hdb:(x==("__debug__":Str))=false:=by decide)
  (he:starEach (e::es) X.env=(false,eval e X.env)::starEach es X.env:=by rfl) (hpl:(backTo pos (starEach es X.env)).any (·.1)=false:=by rfl):PE X (.Call (.Name x p) (e::es) [] pos) (tCB r t):=by
 intro pins s σ H Q I h
 refine wpAny_Call_Name_kw (Sy I hg hm hv ?_ hn hdb)
 exact PyProof.Rows.callWith_builtin1 (thn (ha pos pins s σ H _ I h) fun us s1 zz32=>by obtain⟨vs,H1,I1,r1,q1⟩:=zz32;exact hc pins s1 σ H1 vs us Q I1 r1 q1) he hpl
theorem Z31(hc:Vj X (.type T) r)(hg:Gl X x)(hm:X.mg x=none)(hv:bootBuiltins x=some (.type T))(ha:PA X (e::es) t)(hn:x≠"__name__":=by decide)(hdb:(x==("__debug__":Str))=false:=by decide)
  (he:starEach (e::es) X.env=(false,eval e X.env)::starEach es X.env:=by rfl) (hpl:(backTo pos (starEach es X.env)).any (·.1)=false:=by rfl):PE X (.Call (.Name x p) (e::es) [] pos) (tCB r t):=by
 intro pins s σ H Q I h
 refine wpAny_Call_Name_kw (Sy I hg hm hv ?_ hn hdb)
 exact PyProof.Rows.callWith_type1 (thn (ha pos pins s σ H _ I h) fun us s1 zz33=>by obtain⟨vs,H1,I1,r1,q1⟩:=zz33;exact hc pins s1 σ H1 vs us Q I1 r1 q1) he hpl
end
end L2
namespace HT
open PySem PyProof.Rows
section
open PySem.SeqAt
open PySem.AutoSeq1 (wpAny_loadPart')
open PySem.MeetsSeq PySem.MeetsSeq2 PySem.MeetsSeq3
end
section
variable{prog:Program}{w:World}{A:Around}{E:Value→Shared→Prop}{s:Shared}
theorem Zo1{t b:Addr}{vs ws:List Value}{Q:Value→Shared→Prop}(ht:IsTup s.heap t vs.toArray)(hb:IsTup s.heap b ws.toArray)(hv:vs≠[])
  (h1:ws=[]→Q (.ref t) s) (h2:ws≠[]→Q (.ref s.heap.objs.size) {s with heap:=s.heap.push {cls:= .type "tuple",data:= .seq (vs++ws).toArray}})
  (hsz:vs.length+ws.length≤sizeLine):wpAny (model prog w) A (binaryOp .Add (.ref t) (.ref b)) Q E s:=by
 obtain⟨⟨cls,dd,data,sl⟩,ho,hc,n,hd⟩:=id ht
 obtain⟨⟨cls2,dd2,data2,sl2⟩,ho2,hc2,n2,hd2⟩:=id hb
 simp only at hc hd hc2 hd2
 subst hc hd hc2 hd2
 have e:vs.toArray++ws.toArray=(vs++ws).toArray:=by simp
 by_cases hw:ws=[]
 ·exact concat_meets ⟨_,ho,rfl⟩ ⟨_,ho2,rfl⟩ noFill_tuple_add seq_tuple_add PySem.F.slot_tuple_add PySem.F.entry_tuple_add (PySem.F.args_tuple_add_2 _ _)
   (tuple_addW1 t b vs.toArray ws.toArray n n2 dd dd2 sl sl2 (by simpa using hv) (by simp[hw])) ⟨ho,ho2,h1 hw⟩
 ·refine concat_meets ⟨_,ho,rfl⟩ ⟨_,ho2,rfl⟩ noFill_tuple_add seq_tuple_add PySem.F.slot_tuple_add PySem.F.entry_tuple_add (PySem.F.args_tuple_add_2 _ _)
   (tuple_addW2 t b vs.toArray ws.toArray n n2 dd dd2 sl sl2 (by simpa using hv) (by simpa using hw) (by rw[List.size_toArray,List.size_toArray];exact hsz)) ⟨ho,ho2,?_⟩
  rw[e]
  exact h2 hw
noncomputable def sIx(n d:Nat):Option Int→Nat
 | none=>d
 | some v=>if v<0 then(v+(n:Int)).toNat else min v.toNat n
theorem Zw4(n d:Nat)(hd:d≤n)(o:Option Int):sIx n d o≤n:=by
 cases o with
 | none=>exact hd
 | some v=>
  show(if v<0 then(v+(n:Int)).toNat else min v.toNat n)≤n
  by_cases hv:v<0
  ·rw[if_pos hv];omega
  ·rw[if_neg hv];exact Nat.min_le_right _ _
theorem Z20(v:Int)(n d:Nat):(if v<0 then max (v+(n:Int)) 0 else min v (n:Int))=((sIx n d (some v):Nat):Int):=by
 show(if v<0 then max (v+(n:Int)) 0 else min v (n:Int))=(((if v<0 then(v+(n:Int)).toNat else min v.toNat n):Nat):Int)
 by_cases hv:v<0
 ·simp only[if_pos hv];omega
 ·simp only[if_neg hv];omega
theorem Bb(lo hi:Option Int)(n:Nat):Builtin.Slice.sliceAdjust lo hi 1 (n:Int)=(((sIx n 0 lo:Nat):Int),((sIx n n hi:Nat):Int)):=by
 have h1:¬((1:Int)<0):=by omega
 unfold Builtin.Slice.sliceAdjust
 simp only[h1,if_false]
 refine Prod.ext ?_ ?_
 ·cases lo with
  | none=>rfl
  | some v=>exact Z20 v n 0
 ·cases hi with
  | none=>rfl
  | some v=>exact Z20 v n n
theorem Cf(i j:Nat):Builtin.Slice.slicePlaces (i:Int) (j:Int) 1=j - i:=by
 unfold Builtin.Slice.slicePlaces
 have h1:(1:Int) >0:=by omega
 simp only[h1,if_true,Int.ediv_one]
 split<;>omega
theorem Qr{v:Value}{o:Option Int}{Q:Option Int→Shared→Prop}(p:IsPart v o)(h:Q o s):wpAny (model prog w) A (Builtin.Slice.slicePartIndex v) Q E s:=by
 cases p with
 | none=>exact slicePart_none h
 | int i t=>exact slicePart_int h
theorem S7{sl:Addr}{vl vu:Value}{lo hi:Option Int}{n:Nat}{Q:Int×Int×Nat→Shared→Prop}(hs:s.heap.IsSliceOf sl vl vu .none)(pl:IsPart vl lo)(pu:IsPart vu hi)
  (h:Q (((sIx n 0 lo:Nat):Int),1,sIx n n hi - sIx n 0 lo) s):wpAny (model prog w) A (Builtin.Slice.sliceApplied (.ref sl) (pure (n:Int))) Q E s:=by
 obtain⟨os,hos,hcs,hds⟩:=id hs
 unfold Builtin.Slice.sliceApplied Builtin.Slice.sliceFields
 refine wpAny_bind (wpAny_bind (wpAny_field hos hds (x:=vl) rfl (wpAny_bind (wpAny_field hos hds (x:=vu) rfl (wpAny_bind (wpAny_field hos hds (x:= .none) rfl (wpAny_pure ?_)))))))
 refine wpAny_bind (slicePart_none ?_)
 show wpAny _ _ (if ((1:Int)==0)=true then _ else _) _ _ s
 rw[if_neg (by decide)]
 refine wpAny_bind (Qr pl (wpAny_bind (Qr pu (wpAny_bind (wpAny_pure ?_)))))
 show wpAny _ _ (match Builtin.Slice.sliceAdjust lo hi 1 (n:Int) with | (lo,hi)=>pure (lo,(1:Int),Builtin.Slice.slicePlaces lo hi 1)) _ _ s
 rw[Bb lo hi n]
 show wpAny _ _ (pure (((sIx n 0 lo:Nat):Int),(1:Int),Builtin.Slice.slicePlaces ((sIx n 0 lo:Nat):Int) ((sIx n n hi:Nat):Int) 1)) _ _ s
 rw[Cf]
 exact wpAny_pure h
theorem Zf9(xs:Array Value)(i k:Nat):((List.range k).filterMap fun(m:Nat)=>xs[((i:Int)+(m:Int) * 1).toNat]?).toArray=((xs.toList.drop i).take k).toArray:=by
 have e:(fun(m:Nat)=>xs[((i:Int)+(m:Int) * 1).toNat]?)=fun m=>xs[i+m]?:=by
  funext m
  have:((i:Int)+(m:Int) * 1).toNat=i+m:=by omega
  rw[this]
 rw[e]
 have:=pick_run xs i k
 rw[List.filterMap_map] at this
 have e2:((fun x=>xs[x]?) ∘ fun x=>i+x)=fun m=>xs[i+m]?:=rfl
 rw[e2] at this
 rw[this]
theorem Ta{t sl:Addr}{items:Array Value}{vl vu:Value}{lo hi:Option Int}{Q:Value→Shared→Prop}(ht:IsTup s.heap t items)(hs:s.heap.IsSliceOf sl vl vu .none)(pl:IsPart vl lo)(pu:IsPart vu hi)
  (hw:¬(sIx items.size 0 lo=0∧sIx items.size items.size hi=items.size))
  (h:Q (.ref s.heap.objs.size) {s with heap:=s.heap.push {cls:= .type "tuple",data:= .seq ((items.toList.drop (sIx items.size 0 lo)).take (sIx items.size items.size hi - sIx items.size 0 lo)).toArray}})
  (hsz:items.size≤sizeLine):wpAny (model prog w) A (getItem (.ref t) (.ref sl)) Q E s:=by
 have htake:sizeOk (.seq ((items.toList.drop (sIx items.size 0 lo)).take (sIx items.size items.size hi - sIx items.size 0 lo)).toArray):=by
  show((items.toList.drop (sIx items.size 0 lo)).take (sIx items.size items.size hi - sIx items.size 0 lo)).toArray.size≤sizeLine
  rw[List.size_toArray,List.length_take,List.length_drop,Array.length_toList]
  omega
 have hj:sIx items.size items.size hi≤items.size:=Zw4 _ _ (Nat.le_refl _) hi
 obtain⟨os,hos,hcs,hds⟩:=id hs
 have hTs:s.TypeIs (.ref sl) "slice":=⟨os,hos,hcs⟩
 unfold getItem
 try with_reducible refine wpAny_holding ?_
 first | refine wpAny_bind (wpAny_pure ?_) | skip
 refine wpAny_bind (wpAny_sequenceKey ht.typeIs (by decide) ?_)
 refine wpAny_bind (wpAny_callSpecial?_slot (name:=Str.ofString "__getitem__") ht.typeIs PyProof.Rows.slot_tuple_getitem
  (wpAny_call_entry PyProof.Rows.slot_tuple_getitem ht.typeIs entry_tuple_getitem ?_ (args_tuple_getitem _ _)))
 show wpAny _ _ (Builtin.Tuple.tupleItemsOf (.ref t) >>=_) _ _ s
 refine wpAny_bind (tupleItemsOf_ ht ?_)
 refine wpAny_bind (wpAny_typeOf hTs ?_)
 rw[if_pos (by decide)]
 refine wpAny_bind (S7 hs pl pu ?_)
 have hno:¬((((sIx items.size 0 lo:Nat):Int)==0&&(1:Int)==1&&(sIx items.size items.size hi - sIx items.size 0 lo)==items.size)=true):=by
  intro q
  rw[Bool.and_eq_true,Bool.and_eq_true] at q
  have q1:((sIx items.size 0 lo:Nat):Int)=0:=eq_of_beq q.1.1
  have q2:sIx items.size items.size hi - sIx items.size 0 lo=items.size:=eq_of_beq q.2
  exact hw ⟨by omega,by omega⟩
 show wpAny _ _ (if (((sIx items.size 0 lo:Nat):Int)==0&&(1:Int)==1&&(sIx items.size items.size hi - sIx items.size 0 lo)==items.size)=true then _ else _) _ _ s
 rw[if_neg hno,Zf9]
 first
  | exact wpAny_bind (m:=Builtin.Tuple.tupleExact _) (wpAny_newObj_type (wpAny_pure ⟨_,rfl,wpAny_pure h⟩) htake)
  | exact wpAny_bind (m:=Builtin.Tuple.tupleExact _) (wpAny_newObj_type (wpAny_bind (wpAny_pure (wpAny_pure ⟨_,rfl,wpAny_pure h⟩))) htake)
  | exact wpAny_bind (wpAny_bind (m:=Builtin.Tuple.tupleExact _) (wpAny_newObj_type (wpAny_pure (wpAny_pure ⟨_,rfl,wpAny_pure h⟩)) htake))
  | exact wpAny_bind (wpAny_bind (m:=Builtin.Tuple.tupleExact _) (wpAny_newObj_type (wpAny_pure ⟨_,rfl,wpAny_pure h⟩) htake))
end
end HT
namespace L2
open PySem PySem.Spec PyProof.Rows
abbrev TO:=St→Hp→(Option Int→Hp→Prop)→Prop
def PO(X:Cx)(e:Option Expr)(t:TO):Prop:=
 ∀(pins:List (Addr×Obj)) (s:Shared) (σ:St) (H:Hp) (Q:Option Int→Hp→Prop),Inv X pins σ H s→t σ H Q→
  wpAny (model X.prog X.w) X.A (evalPart e X.env) (fun u s'=>∃o H',Inv X pins σ H' s'∧IsPart u o∧Q o H') X.xe s
def Zs4:TO:=fun _ H Q=>Q none H
def Y68(t:TE):TO:=fun σ H Q=>t σ H fun x H1=>∃i,x= .int i∧Q (some i) H1
section
variable{X:Cx}{e:Expr}{te:TE}{lo hi:Option Expr}{tl th:TO}{pos p2:Pos}
theorem Zl8:PO X none Zs4:=by
 intro pins s σ H Q I h
 rw[evalPart_none]
 exact wpAny_pure ⟨none,H,I,.none,h⟩
theorem Z74(h:PE X e te):PO X (some e) (Y68 te):=by
 intro pins s σ H Q I hw
 rw[evalPart_some]
 refine thn (h pins s σ H _ I hw) fun u s1 zz34=>?_
 obtain⟨x,H1,I1,r1,q1⟩:=zz34
 obtain⟨i,rfl,q⟩:=q1
 obtain⟨t,rfl⟩:=r1
 exact⟨some i,H1,I1,.int i t,q⟩
def SlR(X:Cx)(r:V→Option Int→Option Int→Hp→VK→Prop):Prop:=
 ∀(pins:List (Addr×Obj)) (s:Shared) (σ:St) (H:Hp) (x:V) (v vl vu:Value) (lo hi:Option Int) (sl:Addr) (Q:VK),Inv X pins σ H s→RelV x v→s.heap.IsSliceOf sl vl vu .none→IsPart vl lo→IsPart vu hi→r x lo hi H Q→
  ∃T id,typeLookup (.type T) "__getitem__"=pure (some (.builtin id))∧s.TypeIs v T∧wpAny (model X.prog X.w) X.A (getItem v (.ref sl)) (EP X pins σ Q) X.xe s
def tSl(r:V→Option Int→Option Int→Hp→VK→Prop)(te:TE)(tl th:TO):TE:=fun σ H Q=>te σ H fun x H1=>tl σ H1 fun l H2=>th σ H2 fun u H3=>r x l u H3 Q
theorem Zh8{r:V→Option Int→Option Int→Hp→VK→Prop}(hr:SlR X r)(he:PE X e te)(hl:PO X lo tl)(hu:PO X hi th):PE X (.Subscript e (.Slice lo hi none p2) pos) (tSl r te tl th):=by
 intro pins s σ H Q I h
 refine Subscript_ (thn (he pins s σ H _ I h) fun v s1 zz35=>?_)
 obtain⟨x,H1,I1,r1,q1⟩:=zz35
 refine wpAny_Slice (thn (hl pins s1 σ H1 _ I1 q1) fun vl s2 ⟨l,H2,I2,pl,q2⟩=>thn (hu pins s2 σ H2 _ I2 q2) fun vu s3 zz37=>?_)
 obtain⟨u,H3,I3,pu,q3⟩:=zz37
 rw[evalPart_none]
 refine wpAny_pure ?_
 have I4:Inv X pins σ H3 {s3 with heap:=s3.heap.push {cls:= .type "slice",data:= .fields #[vl,vu,.none]}}:=I3.kept (t':=s3.toks) fun b ob q=>Heap.get?_push_of_some _ q
 obtain⟨T,id,hT,ht,hg⟩:=hr pins {s3 with heap:=s3.heap.push {cls:= .type "slice",data:= .fields #[vl,vu,.none]}} σ H3 x v vl vu l u s3.heap.objs.size Q I4 r1 (Heap.IsSliceOf.new ..) pl pu q3
 show wpAny (model X.prog X.w) X.A (subscriptTail e (.Slice lo hi none p2) v (.ref s3.heap.objs.size)) (EP X pins σ Q) X.xe {s3 with heap:=s3.heap.push {cls:= .type "slice",data:= .fields #[vl,vu,.none]}}
 exact tail_any (ops:=[.ref s3.heap.objs.size,v]) ht hT hg (by with_unfolding_all rfl)
noncomputable def cutV(xs:List V)(lo hi:Option Int):List V:=(xs.drop (HT.sIx xs.length 0 lo)).take (HT.sIx xs.length xs.length hi - HT.sIx xs.length 0 lo)
theorem Rq(xs:List V)(lo hi:Option Int):(cutV xs lo hi).length≤xs.length:=by
 unfold cutV
 rw[List.length_take,List.length_drop]
 omega
def rSlT(K:PySem.W.Frag):V→Option Int→Option Int→Hp→VK→Prop:=fun x lo hi H Q=>∃a xs,x= .ref a∧SqT K H a xs∧
 ¬(HT.sIx xs.length 0 lo=0∧HT.sIx xs.length xs.length hi=xs.length)∧∀p,H p=none→Q (.ref p) (upd H p (.tup (cutV xs lo hi)))
theorem Y38:SlR X (rSlT X.K):=by
 intro pins s σ H x v vl vu lo hi sl Q I rx hs pl pu h
 obtain⟨a,xs,rfl,hx,hw,q⟩:=h
 cases rx
 obtain⟨its,r,ht,hz⟩:=I.tuple hx
 have hlen:its.toArray.size=xs.length:=by rw[List.size_toArray];exact r.length.symm
 refine⟨"tuple",_,PyProof.Rows.slot_tuple_getitem.lookup,ht.typeIs,?_⟩
 refine HT.Ta ht hs pl pu (by rw[hlen];exact hw) ?_ (by rw[hlen];exact hz)
 rw[hlen]
 refine⟨.ref s.heap.objs.size,_,I.laid (t':=s.toks) (o:= .tup (cutV xs lo hi)) (fun b ob q=>Heap.get?_push_of_some _ q) (Nat.le_refl _) ?_,rfl,q _ (I.hok.fresh (Nat.le_refl _))⟩
 exact⟨Nat.le_trans (Rq xs lo hi) hz,_,(r.drop (HT.sIx xs.length 0 lo)).take (HT.sIx xs.length xs.length hi - HT.sIx xs.length 0 lo),IsTup.new _ _⟩
def Y46(K:PySem.W.Frag):R2:=fun x y H Q=>∃a b xs ys,x= .ref a∧y= .ref b∧SqT K H a xs∧SqT K H b ys∧xs≠[]∧xs.length+ys.length≤sizeLine∧
 (ys=[]→Q (.ref a) H)∧(ys≠[]→∀p,H p=none→Q (.ref p) (upd H p (.tup (xs++ys))))
theorem Vals.nil_iff{xs:List V}{us:List Value}(r:Vals xs us):us=[]↔xs=[]:=by
 cases r with
 | nil=>simp
 | cons _ _=>simp
theorem Zn8:OpR X (binaryOp .Add) (Y46 X.K):=by
 intro pins s σ H x y v u Q I rx ry h
 obtain⟨a,b,xs,ys,rfl,rfl,ha,hb,hx,hz,q1,q2⟩:=h
 cases rx
 cases ry
 obtain⟨its,r1,p1,_⟩:=I.tuple ha
 obtain⟨its2,r2,p2,_⟩:=I.tuple hb
 refine HT.Zo1 p1 p2 (fun z=>hx (r1.nil_iff.mp z)) (fun z=>⟨.ref a,H,I,rfl,q1 (r2.nil_iff.mp z)⟩) (fun z=>?_) (by rw[←r1.length,←r2.length];exact hz)
 refine⟨.ref s.heap.objs.size,_,I.laid (t':=s.toks) (o:= .tup (xs++ys)) (fun b ob q=>Heap.get?_push_of_some _ q) (Nat.le_refl _) ?_,rfl,q2 (fun w=>z (r2.nil_iff.mpr w)) _ (I.hok.fresh (Nat.le_refl _))⟩
 exact⟨by rw[List.length_append];exact hz,_,r1.append r2,IsTup.new _ _⟩
end
noncomputable def ixN(n:Nat)(i:Int):Option Nat:=if 0≤i then(if i<n then some i.toNat else none) else if -(n:Int)≤i then some (i+n).toNat else none
noncomputable def atI{α:Type}(xs:List α)(i:Int):Option α:=(ixN xs.length i).bind fun j=>xs[j]?
theorem Z39{n:Nat}{i:Int}{j:Nat}(h:ixN n i=some j):seqIndex? i n=some j∧j<n∧ -(n:Int)≤i∧i<n:=by
 unfold ixN at h
 by_cases h0:0≤i
 ·rw[if_pos h0] at h
  by_cases h1:i<n
  ·rw[if_pos h1] at h
   have e:i.toNat=j:=Option.some.inj h
   exact⟨by rw[seqIndex_of h0 h1,e],by omega,by omega,h1⟩
  ·rw[if_neg h1] at h;cases h
 ·rw[if_neg h0] at h
  by_cases h1:-(n:Int)≤i
  ·rw[if_pos h1] at h
   have e:(i+n).toNat=j:=Option.some.inj h
   exact⟨by rw[seqIndex_neg (by omega) h1,e],by omega,h1,by omega⟩
  ·rw[if_neg h1] at h;cases h
theorem Jr{α:Type}{xs:List α}{i:Int}{v:α}(h:atI xs i=some v):∃j,seqIndex? i xs.length=some j∧xs[j]?=some v∧j<xs.length∧ -(xs.length:Int)≤i∧i<xs.length:=by
 unfold atI at h
 cases e:ixN xs.length i with
 | none=>rw[e] at h;cases h
 | some j=>
  rw[e] at h
  obtain⟨h1,h2,h3,h4⟩:=Z39 e
  exact⟨j,h1,h,h2,h3,h4⟩
theorem Ps{α:Type}{xs:List α}{j:Nat}{v:α}(h:xs[j]?=some v):atI xs (j:Int)=some v:=by
 have hj:j<xs.length:=(List.getElem?_eq_some_iff.mp h).1
 have e:ixN xs.length (j:Int)=some j:=by
  unfold ixN
  rw[if_pos (by omega),if_pos (by omega)];simp
 unfold atI;rw[e];exact h
theorem Oa{α:Type}(xs:List α)(v:α):atI (xs++[v]) (-1)=some v:=by
 have hl:(xs++[v]).length=xs.length+1:=by simp
 have e:ixN (xs++[v]).length (-1)=some xs.length:=by
  unfold ixN
  rw[hl,if_neg (by decide),if_pos (by omega)]
  congr 1
  omega
 unfold atI
 rw[e]
 show(xs++[v])[xs.length]?=some v
 simp
def Bq(b:Expr):Prop:=∀o i,subscripted b false o i=operate [o,i] (getItem o i)
def IxR(X:Cx)(r:R2):Prop:=
 ∀(value slice:Expr) (pins:List (Addr×Obj)) (s:Shared) (σ:St) (H:Hp) (x y:V) (v u:Value) (Q:VK),Inv X pins σ H s→RelV x v→RelV y u→r x y H Q→
  subscripted slice false v u=operate [v,u] (getItem v u)→wpAny (model X.prog X.w) X.A (subscriptTail value slice v u) (EP X pins σ Q) X.xe s
def MtR(X:Cx)(id:String)(r:V→List V→Hp→VK→Prop):Prop:=
 ∀(pins:List (Addr×Obj)) (s:Shared) (σ:St) (H:Hp) (x:V) (xs:List V) (v:Value) (us:List Value) (Q:VK),Inv X pins σ H s→RelV x v→Vals xs us→r x xs H Q→
  wpAny (model X.prog X.w) X.A (call (.builtin id) (v::us)) (EP X pins σ Q) X.xe s
section
variable{X:Cx}{a b:Expr}{ta tb:TE}{pos:Pos}
theorem Y44{r:R2}(hr:IxR X r)(ha:PE X a ta)(hb:PE X b tb)(hs:Bq b):PE X (.Subscript a b pos) (tOp r ta tb):=by
 intro pins s σ H Q I h
 exact Subscript_ (binT ha hb I h fun v u s2 x y H2 I2 rx ry q=>hr a b pins s2 σ H2 x y v u Q I2 rx ry q (hs _ _))
def rIxL(K:PySem.W.Frag):R2:=fun x y H Q=>∃p xs i v,x= .ref p∧y= .int i∧SqL K H p xs∧atI xs i=some v∧Q v H
def rIxT(K:PySem.W.Frag):R2:=fun x y H Q=>∃p xs i v,x= .ref p∧y= .int i∧SqT K H p xs∧atI xs i=some v∧Q v H
def rIxS:R2:=fun x y H Q=>∃z i c,x= .str z∧y= .int i∧z.length≤sizeLine∧atI z.cps.toList i=some c∧Q (.str ⟨#[c]⟩) H
theorem Zm4:IxR X (rIxL X.K):=by
 intro value slice pins s σ H x y v u Q I rx ry h hs
 obtain⟨p,xs,i,z,rfl,rfl,hq,he,q⟩:=h
 cases rx
 obtain⟨t,rfl⟩:=ry
 obtain⟨its,r,pl,hz⟩:=I.list hq
 obtain⟨j,h1,h2,h3,h4,h5⟩:=Jr he
 obtain⟨w,ew,rw'⟩:=r.get h2
 have hl:=r.length
 have hn:=Sw
 have fin:EP X pins σ Q w s:=⟨z,H,I,rw',q⟩
 by_cases h0:0≤i
 ·have hj:i.toNat=j:=by
   rw[seqIndex_of h0 h5] at h1
   exact Option.some.inj h1
  exact item_listR pl.isList h0 (by omega) (by rw[hj];simpa using ew) fin hs
 ·have hj:(i+(its.toArray.size:Int)).toNat=j:=by
   rw[seqIndex_neg (by omega) h4] at h1
   rw[List.size_toArray,←hl]
   exact Option.some.inj h1
  exact subscriptTail_builtinR (x:=w) pl.isList.typeIs slot_list_getitem.lookup
   (wpAny_getItem_list_neg (Q:=fun r s'=>r=w∧EP X pins σ Q r s') pl.isList (by omega) (by rw[List.size_toArray]<;>omega) (by omega) (by rw[hj];simpa using ew) ⟨rfl,fin⟩) hs
theorem Zk4:IxR X (rIxT X.K):=by
 intro value slice pins s σ H x y v u Q I rx ry h hs
 obtain⟨p,xs,i,z,rfl,rfl,hq,he,q⟩:=h
 cases rx
 obtain⟨t,rfl⟩:=ry
 obtain⟨its,r,pl,hz⟩:=I.tuple hq
 obtain⟨j,h1,h2,h3,h4,h5⟩:=Jr he
 obtain⟨w,ew,rw'⟩:=r.get h2
 have hl:=r.length
 have hn:=Sw
 have fin:EP X pins σ Q w s:=⟨z,H,I,rw',q⟩
 exact subscriptTail_builtinR (x:=w) pl.typeIs slot_tuple_getitem.lookup
  (getItem_tuple (j:=j) (Q:=fun r s'=>r=w∧EP X pins σ Q r s') pl (by omega) (by omega) (by rw[List.size_toArray,←hl];exact h1) (by simpa using ew) ⟨rfl,fin⟩) hs
theorem Zw5:IxR X rIxS:=by
 intro value slice pins s σ H x y v u Q I rx ry h hs
 obtain⟨z,i,c,rfl,rfl,hz,he,q⟩:=h
 obtain⟨t,rfl⟩:=rx
 obtain⟨t',rfl⟩:=ry
 obtain⟨j,h1,h2,h3,h4,h5⟩:=Jr he
 have hl:z.cps.toList.length=z.length:=by simp[Str.length]
 rw[hl] at h1 h4 h5
 have hn:=Sw
 exact tail_any (typeIs_str s z t) slot_str_getitem.lookup (getItem_str (c:=c) (by
  have e1:decide (i< -(2 ^ 63:Int))=false:=decide_eq_false (by omega)
  have e2:decide (i ≥ 2 ^ 63)=false:=decide_eq_false (by omega)
  rw[e1,e2,Bool.or_false]) (by rw[h1];simpa using h2) ⟨.str ⟨#[c]⟩,H,I.tok _,⟨_,rfl⟩,q⟩) hs
theorem C4(its:List Value)(n j:Nat)(u:Value):Obj.mapSeq (·.setIfInBounds j u) {cls:= .type "list",data:= .seq its.toArray n}={cls:= .type "list",data:= .seq (its.set j u).toArray n}:=by
 simp[Obj.mapSeq]
theorem Inv.lst{pins:List (Addr×Obj)}{σ:St}{H:Hp}{s:Shared}{p:Addr}{xs:List V}(I:Inv X pins σ H s)(h:H p=some (.lst xs)):
  ∃(its:List Value) (n:Nat),Vals xs its∧s.heap.get? p=some {cls:= .type "list",data:= .seq its.toArray n}∧xs.length≤sizeLine:=by
 obtain⟨z,its,n,r,e⟩:=I.hok p _ h
 exact⟨its,n,r,e,z⟩
theorem Inv.lstUpd{pins:List (Addr×Obj)}{σ:St}{H:Hp}{s:Shared}{p:Addr}{xs ys:List V}{its its':List Value}{n n':Nat}{f:Obj→Obj}(I:Inv X pins σ H s)(h:H p=some (.lst xs))
  (ho:s.heap.get? p=some {cls:= .type "list",data:= .seq its.toArray n}) (hf:f {cls:= .type "list",data:= .seq its.toArray n}={cls:= .type "list",data:= .seq its'.toArray n'}) (r:Vals ys its') (hz:ys.length≤sizeLine) (t:Nat):
  Inv X pins σ (upd H p (.lst ys)) {s with heap:=s.heap.update p f,toks:=t}:=by
 have e:(s.heap.update p f).get? p=some {cls:= .type "list",data:= .seq its'.toArray n'}:=by
  rw[Heap.get?_update_self f ho (by rw[hf]<;>rfl),hf]
 refine I.write (x:=p) (e:=p) (by rw[h];trivial) (.inl rfl) (fun b u hb q=>(Heap.get?_update_other _ _ (Ne.symm hb)).trans q) ⟨_,e⟩ ?_
 exact⟨hz,its',n',r,e⟩
def Zx0:V→V→V→Hp→(Hp→Prop)→Prop:=fun o i v H Q=>∃p xs k j,o= .ref p∧i= .int k∧H p=some (.lst xs)∧ixN xs.length k=some j∧Q (upd H p (.lst (xs.set j v)))
theorem Zd4:PSet X Zx0:=by
 intro pins s σ H o i v ov iv u Q I ro ri rv h
 obtain⟨p,xs,k,j,rfl,rfl,hp,hj,q⟩:=h
 cases ro
 obtain⟨t,rfl⟩:=ri
 obtain⟨its,n,r,ho,hz⟩:=I.lst hp
 obtain⟨h1,h2,h3,h4⟩:=Z39 hj
 have hl:=r.length
 have hn:=Sw
 have I':Inv X pins σ (upd H p (.lst (xs.set j v))) {s with heap:=s.heap.update p (Obj.mapSeq (·.setIfInBounds j u))}:=
  I.lstUpd hp ho (C4 its n j u) (r.set rv j) (by rw[List.length_set];exact hz) s.toks
 by_cases h0:0≤k
 ·have hk:k.toNat=j:=by
   rw[seqIndex_of h0 h4] at h1
   exact Option.some.inj h1
  exact PySem.W.ki_setAt ho h0 (by omega) (by rw[List.size_toArray,←hl];exact h4) (by rw[hk];exact⟨_,I',q⟩)
 ·have hk:(k+(its.toArray.size:Int)).toNat=j:=by
   rw[seqIndex_neg (by omega) h3] at h1
   rw[List.size_toArray,←hl]
   exact Option.some.inj h1
  exact PySem.W.ki_setBack ho (by omega) (by rw[List.size_toArray,←hl];exact h3) (by omega) (by rw[hk];exact⟨_,I',q⟩)
theorem Nt(lo hi:Option Int)(n:Nat):(sliceBounds lo hi none n).1=((HT.sIx n 0 lo:Nat):Int)∧(sliceBounds lo hi none n).2.1=((HT.sIx n n hi:Nat):Int)∧(sliceBounds lo hi none n).2.2=1:=by
 refine⟨?_,?_,rfl⟩
 ·cases lo with
  | none=>simp[sliceBounds,HT.sIx]
  | some i=>
   simp only[sliceBounds,HT.sIx,Option.getD_none,show(1:Int) >0 by decide,if_true]
   by_cases h:i<0
   ·simp only[h,if_true]<;>omega
   ·simp only[h,if_false]<;>omega
 ·cases hi with
  | none=>simp[sliceBounds,HT.sIx]
  | some i=>
   simp only[sliceBounds,HT.sIx,Option.getD_none,show(1:Int) >0 by decide,if_true]
   by_cases h:i<0
   ·simp only[h,if_true]<;>omega
   ·simp only[h,if_false]<;>omega
theorem Ph(its:List Value)(lo hi:Option Int):slicePick its.toArray lo hi none=((its.drop (HT.sIx its.length 0 lo)).take (HT.sIx its.length its.length hi - HT.sIx its.length 0 lo)).toArray:=by
 obtain⟨h1,h2,h3⟩:=Nt lo hi its.toArray.size
 unfold slicePick
 rw[h1,h2,h3]
 simp only[sliceRange_one,pick_run,List.size_toArray]<;>rfl
def rSlL(K:PySem.W.Frag):V→Option Int→Option Int→Hp→VK→Prop:=fun x lo hi H Q=>∃a xs,x= .ref a∧SqL K H a xs∧∀p,H p=none→Q (.ref p) (upd H p (.lst (cutV xs lo hi)))
theorem Zq1:SlR X (rSlL X.K):=by
 intro pins s σ H x v vl vu lo hi sl Q I rx hs pl pu h
 obtain⟨a,xs,rfl,hx,q⟩:=h
 cases rx
 obtain⟨its,r,ht,hz⟩:=I.list hx
 have hlen:=r.length
 refine⟨"list",_,slot_list_getitem.lookup,ht.isList.typeIs,?_⟩
 refine wpAny_getItem_list_slice ht.isList hs pl pu .none (by simp) ?_ (by rw[List.size_toArray]<;>omega)
 rw[Ph,←hlen]
 refine⟨.ref s.heap.objs.size,_,I.laid (t':=s.toks) (o:= .lst (cutV xs lo hi)) (fun b ob q=>Heap.get?_push_of_some _ q) (Nat.le_refl _) ?_,rfl,q _ (I.hok.fresh (Nat.le_refl _))⟩
 exact⟨Nat.le_trans (Rq xs lo hi) hz,_,0,(r.drop (HT.sIx xs.length 0 lo)).take (HT.sIx xs.length xs.length hi - HT.sIx xs.length 0 lo),Heap.get?_push_size _ rfl⟩
noncomputable def Q1:V→Bool
 | .non=>true
 | .bl _=>true
 | .int _=>true
 | .str _=>true
 | _=>false
noncomputable def eqV:V→V→Bool
 | .non,.non=>true
 | .bl a,.bl b=>a==b
 | .bl a,.int b=>(if a then 1 else 0)==b
 | .int a,.bl b=>a==(if b then 1 else 0)
 | .int a,.int b=>a==b
 | .str a,.str b=>a==b
 | _,_=>false
theorem Zk9{A:Around}{s:Shared}{y x:V}{u v:Value}(ry:RelV y u)(rx:RelV x v)(fy:Q1 y=true)(fx:Q1 x=true):SeqAt.EqAt A s u v (eqV y x):=by
 cases y with
 | non=>
  cases ry
  cases x with
  | non=>cases rx;exact SeqAt.EqAt.same _
  | bl b=>cases rx;exact SeqAt.EqAt.none_bool b
  | int b=>obtain⟨t,rfl⟩:=rx;exact SeqAt.EqAt.none_int b t
  | str b=>obtain⟨t,rfl⟩:=rx;exact SeqAt.EqAt.none_str b t
  | _=>exact absurd (show false=true from fx) Bool.false_ne_true
 | bl a=>
  cases ry
  cases x with
  | non=>cases rx;exact SeqAt.EqAt.bool_none a
  | bl b=>cases rx;exact SeqAt.EqAt.bool_bool a b
  | int b=>obtain⟨t,rfl⟩:=rx;exact SeqAt.EqAt.bool_int a b t
  | str b=>obtain⟨t,rfl⟩:=rx;exact SeqAt.EqAt.bool_str a b t
  | _=>exact absurd (show false=true from fx) Bool.false_ne_true
 | int a=>
  obtain⟨t',rfl⟩:=ry
  cases x with
  | non=>cases rx;exact SeqAt.EqAt.int_none a t'
  | bl b=>cases rx;exact SeqAt.EqAt.int_bool a t' b
  | int b=>obtain⟨t,rfl⟩:=rx;exact SeqAt.EqAt.int_int a t' b t
  | str b=>obtain⟨t,rfl⟩:=rx;exact SeqAt.EqAt.int_str a t' b t
  | _=>exact absurd (show false=true from fx) Bool.false_ne_true
 | str a=>
  obtain⟨t',rfl⟩:=ry
  cases x with
  | non=>cases rx;exact SeqAt.EqAt.str_none a t'
  | bl b=>cases rx;exact SeqAt.EqAt.str_bool a t' b
  | int b=>obtain⟨t,rfl⟩:=rx;exact SeqAt.EqAt.str_int a t' b t
  | str b=>obtain⟨t,rfl⟩:=rx;exact SeqAt.EqAt.str_str a t' b t
  | _=>exact absurd (show false=true from fx) Bool.false_ne_true
 | _=>exact absurd (show false=true from fy) Bool.false_ne_true
noncomputable def eqU(x:V)(u:Value):Bool:=match u with
 | .none=>eqV .non x
 | .bool b=>eqV (.bl b) x
 | .int i _=>eqV (.int i) x
 | .str z _=>eqV (.str z) x
 | _=>false
theorem Zk2{x y:V}{u:Value}(r:RelV y u)(f:Q1 y=true):eqU x u=eqV y x:=by
 cases y with
 | non=>cases r;rfl
 | bl b=>cases r;rfl
 | int i=>obtain⟨t,rfl⟩:=r;rfl
 | str z=>obtain⟨t,rfl⟩:=r;rfl
 | _=>exact absurd (show false=true from f) Bool.false_ne_true
theorem Ra{x:V}:∀{xs:List V} {us:List Value},Vals xs us→xs.all Q1=true→us.any (eqU x)=xs.any fun y=>eqV y x
 | _,_,.nil,_=>rfl
 | y::xs,u::us,.cons r t,f=>by
  rw[List.all_cons,Bool.and_eq_true] at f
  rw[List.any_cons,List.any_cons,Zk2 r f.1,Ra t f.2]
theorem Vv{A:Around}{s:Shared}{x:V}{v:Value}(rx:RelV x v)(fx:Q1 x=true):∀{xs:List V} {us:List Value},Vals xs us→xs.all Q1=true→∀u∈us,SeqAt.EqAt A s u v (eqU x u)
 | _,_,.nil,_=>fun u hu=>by cases hu
 | y::xs,u::us,.cons r t,f=>fun u' hu=>by
  rw[List.all_cons,Bool.and_eq_true] at f
  rcases List.mem_cons.mp hu with rfl | hu
  ·rw[Zk2 r f.1];exact Zk9 r rx f.1 fx
  ·exact Vv rx fx t f.2 u' hu
noncomputable def inV(x:V)(xs:List V):Bool:=xs.any fun y=>eqV y x
def rIn(K:PySem.W.Frag)(neg:Bool):R2:=fun x y H Q=>∃p xs,y= .ref p∧(SqL K H p xs∨SqT K H p xs)∧Q1 x=true∧xs.all Q1=true∧Q (.bl (if neg then !inV x xs else inV x xs)) H
theorem Z12:OpR X (compareOp .In) (rIn X.K false):=by
 intro pins s σ H x y v u Q I rx ry h
 obtain⟨p,xs,rfl,hq,fx,fs,q⟩:=h
 cases ry
 rcases hq with hq | hq
 ·obtain⟨its,r,pl,hz⟩:=I.list hq
  refine SeqAt.in_listAt (eqU x) pl.isList (fun w hw=>Vv rx fx r fs w (by simpa using hw)) ⟨.bl _,H,I,rfl,?_⟩
  rw[show its.toArray.any (eqU x)=its.any (eqU x) by simp,Ra r fs]
  exact q
 ·obtain⟨its,r,pl,hz⟩:=I.tuple hq
  refine SeqAt.in_tupleAt (eqU x) pl (fun w hw=>Vv rx fx r fs w (by simpa using hw)) ⟨.bl _,H,I,rfl,?_⟩
  rw[show its.toArray.any (eqU x)=its.any (eqU x) by simp,Ra r fs]
  exact q
theorem J9:OpR X (compareOp .NotIn) (rIn X.K true):=by
 intro pins s σ H x y v u Q I rx ry h
 obtain⟨p,xs,rfl,hq,fx,fs,q⟩:=h
 cases ry
 rcases hq with hq | hq
 ·obtain⟨its,r,pl,hz⟩:=I.list hq
  refine SeqAt.notIn_listAt (eqU x) pl.isList (fun w hw=>Vv rx fx r fs w (by simpa using hw)) ⟨.bl _,H,I,rfl,?_⟩
  rw[show its.toArray.any (eqU x)=its.any (eqU x) by simp,Ra r fs]
  exact q
 ·obtain⟨its,r,pl,hz⟩:=I.tuple hq
  refine SeqAt.notIn_tupleAt (eqU x) pl (fun w hw=>Vv rx fx r fs w (by simpa using hw)) ⟨.bl _,H,I,rfl,?_⟩
  rw[show its.toArray.any (eqU x)=its.any (eqU x) by simp,Ra r fs]
  exact q
theorem Th:Vj X (.builtin "len") (fun xs H Q=>∃p ys,xs=[.ref p]∧(SqL X.K H p ys∨SqT X.K H p ys)∧Q (.int ys.length) H):=by
 intro pins s σ H xs us Q I r h
 obtain⟨p,ys,rfl,hq,q⟩:=h
 obtain⟨u,rfl,rx⟩:=Q4 r
 cases rx
 have hn:=Sw
 rcases hq with hq | hq
 ·obtain⟨its,r',pl,hz⟩:=I.list hq
  have hlen:=r'.length
  exact Calls.call_len_list pl.isList (by simp only[List.size_toArray]<;>omega) ⟨.int ys.length,H,I.tok _,⟨s.toks+1,by rw[List.size_toArray,hlen]⟩,q⟩
 ·obtain⟨its,r',pl,hz⟩:=I.tuple hq
  have hlen:=r'.length
  exact len_tuple pl (by simp only[List.size_toArray]<;>omega) ⟨.int ys.length,H,I.tok _,⟨s.toks+1,by rw[List.size_toArray,hlen]⟩,q⟩
theorem Np:Vj X (.builtin "len") (fun xs H Q=>∃z,xs=[.str z]∧z.length≤sizeLine∧Q (.int z.length) H):=by
 intro pins s σ H xs us Q I r h
 obtain⟨z,rfl,hz,q⟩:=h
 obtain⟨u,rfl,t,rfl⟩:=Q4 r
 have hn:=Sw
 exact len_str (by omega) ⟨.int z.length,H,I.tok _,⟨_,rfl⟩,q⟩
theorem Ji:Vj X (.type "list") (fun xs H Q=>∃p ys,xs=[.ref p]∧(SqL X.K H p ys∨SqT X.K H p ys)∧∀l,H l=none→Q (.ref l) (upd H l (.lst ys))):=by
 intro pins s σ H xs us Q I r h
 obtain⟨p,ys,rfl,hq,q⟩:=h
 obtain⟨u,rfl,rx⟩:=Q4 r
 cases rx
 have fin:∀(its:List Value),Vals ys its→ys.length≤sizeLine→∀(h':Heap) (c':Nat),(∀b o',s.heap.get? b=some o'→h'.get? b=some o')→
   h'.get? s.heap.objs.size=some {cls:= .type "list",dict:=none,data:= .seq its.toArray c',slots:=#[]}→EP X pins σ Q (.ref s.heap.objs.size) {s with heap:=h'}:=fun its r' hz h' c' kp e=>
  ⟨.ref s.heap.objs.size,_,I.laid (t':=s.toks) kp (Nat.le_refl _) (show Ys X.prog X.w _ h' _ (.lst ys) from⟨hz,its,c',r',e⟩),rfl,q _ (I.hok.fresh (Nat.le_refl _))⟩
 rcases hq with hq | hq
 ·obtain⟨its,r',pl,hz⟩:=I.list hq
  have hlen:=r'.length
  obtain⟨o,ho,hc,n,hd⟩:=pl.isList
  exact call_list_seq p (.inl rfl) ho hc hd (fun h' c' kp e=>fin its r' hz h' c' kp e) (by simp only[List.size_toArray]<;>omega)
 ·obtain⟨its,r',pl,hz⟩:=I.tuple hq
  have hlen:=r'.length
  obtain⟨o,ho,hc,n,hd⟩:=pl
  exact call_list_seq p (.inr rfl) ho hc hd (fun h' c' kp e=>fin its r' hz h' c' kp e) (by simp only[List.size_toArray]<;>omega)
theorem Pl:Vj X (.type "tuple") (fun xs H Q=>∃p ys,xs=[.ref p]∧((SqL X.K H p ys∧∀l,H l=none→Q (.ref l) (upd H l (.tup ys)))∨(SqT X.K H p ys∧Q (.ref p) H))):=by
 intro pins s σ H xs us Q I r h
 obtain⟨p,ys,rfl,h⟩:=h
 obtain⟨u,rfl,rx⟩:=Q4 r
 cases rx
 rcases h with⟨hq,q⟩ | ⟨hq,q⟩
 ·obtain⟨its,r',pl,hz⟩:=I.list hq
  have hlen:=r'.length
  refine call_tuple_list pl.isList (fun h' kp=>?_) (by simp only[List.size_toArray]<;>omega)
  have I1:Inv X pins σ H {s with heap:=h'}:=I.kept (t':=s.toks) kp
  have I2:Inv X pins σ (upd H h'.objs.size (.tup ys)) {s with heap:=h'.push {cls:= .type "tuple",data:= .seq its.toArray}}:=
   I1.laid (t':=s.toks) (fun b o e=>Heap.get?_push_of_some _ e) (Nat.le_refl _) (show Ys X.prog X.w _ _ _ (.tup ys) from⟨hz,its,r',IsTup.new _ _⟩)
  exact⟨.ref h'.objs.size,_,I2,rfl,q _ (I1.hok.fresh (Nat.le_refl _))⟩
 ·obtain⟨its,r',pl,hz⟩:=I.tuple hq
  exact call_tuple_same pl ⟨.ref p,H,I,rfl,q⟩
def tyV(K:PySem.W.Frag)(T:String)(x:V)(H:Hp):Prop:=match x with
 | .str _=>T="str"
 | .int _=>T="int"
 | .ref p=>(T="list"∧∃xs,SqL K H p xs)∨(T="tuple"∧∃o,K.lookup p=some o∧o.cls= .type "tuple"∧o.dict=none)∨
   (T="dict"∧((∃kvs,H p=some (.dK kvs))∨∃kvs,H p=some (.dT kvs)))∨(T="set"∧∃S n,H p=some (.set S n))
 | _=>False
theorem Zj9{pins:List (Addr×Obj)}{σ:St}{H:Hp}{s:Shared}{T:String}{x:V}{v:Value}(I:Inv X pins σ H s)(r:RelV x v)(ty:tyV X.K T x H):
  s.TypeIs v T∧∀a,v= .ref a→∃ob,s.heap.get? a=some ob∧ob.dict=none:=by
 cases x with
 | str z=>
  obtain⟨t,rfl⟩:=r
  cases (show T="str" from ty)
  exact⟨typeIs_str s z t,fun _ e=>nomatch e⟩
 | int i=>
  obtain⟨t,rfl⟩:=r
  cases (show T="int" from ty)
  exact⟨typeIs_int s i t,fun _ e=>nomatch e⟩
 | ref p=>
  cases r
  rcases ty with⟨rfl,xs,hq⟩ | ⟨rfl,o,hk,hc,hd⟩ | ⟨rfl,hk⟩ | ⟨rfl,S,n,hk⟩
  ·obtain⟨its,_,pl,_⟩:=I.list hq
   refine⟨pl.isList.typeIs,fun a e=>?_⟩
   cases e
   obtain⟨o,n,e,c,hd,_⟩:=pl
   exact⟨o,e,hd⟩
  ·refine⟨⟨o,I.kIn p o hk,hc⟩,fun a e=>?_⟩
   cases e
   exact⟨o,I.kIn _ o hk,hd⟩
  ·have z:∃o,s.heap.get? p=some o∧o.ExactDict:=by
    rcases hk with⟨kvs,hk⟩ | ⟨kvs,hk⟩
    ·obtain⟨_,_,_,_,o,_,_,e,ex,_⟩:=I.hok p _ hk
     exact⟨o,e,ex⟩
    ·obtain⟨_,_,_,_,o,_,_,e,ex,_⟩:=I.hok p _ hk
     exact⟨o,e,ex⟩
   obtain⟨o,e,ex⟩:=z
   refine⟨⟨o,e,ex.1⟩,fun a e2=>?_⟩
   cases e2
   exact⟨o,e,ex.2.1⟩
  ·obtain⟨o,_,_,_,e,ex,_⟩:=I.hok p _ hk
   refine⟨⟨o,e,ex.1⟩,fun a e2=>?_⟩
   cases e2
   exact⟨o,e,ex.2.1⟩
 | _=>exact False.elim ty
def tBM0(K:PySem.W.Frag)(T:String)(r:V→List V→Hp→VK→Prop)(to:TE):TE:=fun σ H Q=>to σ H fun x H1=>tyV K T x H1∧r x [] H1 Q
def tBM(K:PySem.W.Frag)(T:String)(r:V→List V→Hp→VK→Prop)(to:TE)(t:TA):TE:=fun σ H Q=>to σ H fun x H1=>tyV K T x H1∧t σ H1 fun xs H2=>r x xs H2 Q
variable{o e:Expr}{es:List Expr}{to:TE}{t:TA}{name:Str}{apos cpos:Pos}{T id:String}{r:V→List V→Hp→VK→Prop}
theorem Y36(pa:PlainAttrs T)(slot:Slot T name id)(hty:typeOf (.builtin id)=pure (.type "method_descriptor"))(hm:MtR X id r)(ho:PE X o to)
  (hbase:attributeBase o name X.env (eval o X.env)=eval o X.env:=by rfl) (hline:(apos.endLine==cpos.line)=true:=by rfl):PE X (.Call (.Attribute o name apos) [] [] cpos) (tBM0 X.K T r to):=by
 intro pins s σ H Q I h
 refine wpAny_Call_method0_late hbase hline (thn (ho pins s σ H _ I h) fun v s1 zz38=>?_)
 obtain⟨x,H1,I1,r1,ty,q1⟩:=zz38
 obtain⟨h1,h2⟩:=Zj9 I1 r1 ty
 exact⟨T,id,pa,slot,hty,h1,h2,Calls.callWith_builtin rfl (PySem.evalArgs_none (hm pins s1 σ H1 x [] v [] Q I1 r1 .nil q1))⟩
theorem Y45(pa:PlainAttrs T)(slot:Slot T name id)(hty:typeOf (.builtin id)=pure (.type "method_descriptor"))(hm:MtR X id r)(ho:PE X o to)(ha:PA X (e::es) t)
  (hbase:attributeBase o name X.env (eval o X.env)=eval o X.env:=by rfl)
  (hfew:((backTo cpos (starEach (e::es) X.env)).all (fun x=> !x.1)&&(backToKw cpos (keywordEach [] X.env)).all (fun x=>x.1.isSome)
   &&decide ((e::es).length+([]:List Keyword).length+(if ([]:List Keyword).isEmpty then 0 else 1)<30))=true:=by rfl)
  (hline:(apos.endLine==cpos.line)=true:=by rfl) (hs:starEach (e::es) X.env=(false,eval e X.env)::starEach es X.env:=by rfl) (hplain:(backTo cpos (starEach es X.env)).any (·.1)=false:=by rfl):
  PE X (.Call (.Attribute o name apos) (e::es) [] cpos) (tBM X.K T r to t):=by
 intro pins s σ H Q I h
 refine wpAny_Call_method_late hbase hfew hline rfl (thn (ho pins s σ H _ I h) fun v s1 zz39=>?_)
 obtain⟨x,H1,I1,r1,ty,q1⟩:=zz39
 obtain⟨h1,h2⟩:=Zj9 I1 r1 ty
 refine⟨T,id,pa,slot,hty,h1,h2,?_⟩
 have hA:=ha cpos pins s1 σ H1 _ I1 q1
 rw[hs] at hA ⊢
 refine Calls.callWith_builtin (by show(false || (backTo cpos (starEach es X.env)).any (·.1))=false;rw[hplain]<;>rfl) (Calls.evalArgs_plain ?_)
 exact thn hA fun us s2 zz40=>by obtain⟨vs,H2,I2,r2,q2⟩:=zz40;exact hm pins s2 σ H2 x vs v us Q I2 r1 r2 q2
end
def MtM(X:Cx)(id:String)(r:V→List V→Hp→VK→Prop):Prop:=
 ∀(pins:List (Addr×Obj)) (s:Shared) (σ:St) (H:Hp) (x:V) (xs:List V) (v:Value) (us:List Value) (Q:VK),Inv X pins σ H s→RelV x v→Vals xs us→r x xs H Q→
  wpAny (model X.prog X.w) X.A (call (.builtin id) (v::us)) (EP X pins σ Q) X.xe s
theorem Vals.one:∀{x:V} {us:List Value},Vals [x] us→∃u,us=[u]∧RelV x u
 | _,_,.cons r .nil=>⟨_,rfl,r⟩
theorem Vals.zero:∀{us:List Value},Vals [] us→us=[]
 | _,.nil=>rfl
theorem Vals.dropLast{xs:List V}{us:List Value}(h:Vals xs us):Vals xs.dropLast us.dropLast:=by
 induction h with
 | nil=>exact .nil
 | cons r t ih=>
  cases t with
  | nil=>exact .nil
  | cons q t'=>exact .cons r ih
theorem Vals.reverse{xs:List V}{us:List Value}(h:Vals xs us):Vals xs.reverse us.reverse:=by
 induction h with
 | nil=>exact .nil
 | cons r t ih=>rw[List.reverse_cons,List.reverse_cons];exact Vals.append ih (.cons r .nil)
theorem Vals.rep{xs:List V}{us:List Value}(h:Vals xs us):∀k:Nat,Vals (List.replicate k xs).flatten (List.replicate k us).flatten
 | 0=> .nil
 | k+1=>by
  rw[List.replicate_succ,List.replicate_succ,List.flatten_cons,List.flatten_cons]
  exact Vals.append h (Vals.rep h k)
theorem B5{α:Type}(l:List α):l.eraseIdx (l.length - 1)=l.dropLast:=by
 induction l with
 | nil=>rfl
 | cons a r ih=>
  cases r with
  | nil=>rfl
  | cons b r=>
   have e:(a::b::r).length - 1=((b::r).length - 1)+1:=by
    have h1:(a::b::r).length=r.length+2:=rfl
    have h2:(b::r).length=r.length+1:=rfl
    omega
   rw[e,List.eraseIdx_cons_succ,ih]
   all_goals rfl
theorem Nu(its:List Value):∀(k:Nat) (acc:List Value),
  List.foldl (fun x1 x2=>x1++x2) acc.toArray (List.replicate k its.toArray)=(acc++(List.replicate k its).flatten).toArray
 | 0,acc=>by simp
 | k+1,acc=>by
  have e:acc.toArray++its.toArray=(acc++its).toArray:=by simp
  have e2:(acc++its)++(List.replicate k its).flatten=acc++(List.replicate (k+1) its).flatten:=by
   rw[List.replicate_succ,List.flatten_cons,List.append_assoc]
  rw[←e2,←Nu its k (acc++its),←e,List.replicate_succ,List.foldl_cons]
section
variable{X:Cx}{pins:List (Addr×Obj)}{σ:St}{H:Hp}{s:Shared}{l b:Addr}{xs ys zs:List V}
theorem Inv.lset{its its':List Value}{n:Nat}{f:Array Value→Array Value}{t':Nat}(I:Inv X pins σ H s)(hH:H l=some (.lst xs))
  (e:s.heap.get? l=some {cls:= .type "list",data:= .seq its.toArray n}) (hf:f its.toArray=its'.toArray) (hv:Vals ys its') (hz:ys.length≤sizeLine):
  Inv X pins σ (upd H l (.lst ys)) {s with heap:=s.heap.update l (Obj.mapSeq f),toks:=t'}:=by
 have q:=PySem.IsL.update e f
 rw[hf] at q
 refine I.write (x:=l) (e:=l) (by rw[hH];exact trivial) (.inl rfl) (fun b' u hb hu=>(Heap.get?_update_other s.heap (Obj.mapSeq f) (Ne.symm hb)).trans hu) ⟨_,q⟩ ?_
 exact⟨hz,its',_,hv,q⟩
theorem Inv.lnew{its:List Value}{t':Nat}(I:Inv X pins σ H s)(hv:Vals ys its)(hz:ys.length≤sizeLine):
  Inv X pins σ (upd H s.heap.objs.size (.lst ys)) {s with heap:=s.heap.push {cls:= .type "list",data:= .seq its.toArray},toks:=t'}:=
 I.laid (fun _ _ q=>Heap.get?_push_of_some _ q) (Nat.le_refl _) ⟨hz,its,0,hv,Heap.get?_push_size _ rfl⟩
theorem Inv.fresh(I:Inv X pins σ H s):H s.heap.objs.size=none:=I.hok.fresh (Nat.le_refl _)
theorem Inv.lstM(I:Inv X pins σ H s)(hH:H l=some (.lst xs)):xs.length≤sizeLine∧∃(its:List Value) (n:Nat),Vals xs its∧xs.length=its.length∧s.heap.get? l=some {cls:= .type "list",data:= .seq its.toArray n}:=by
 obtain⟨z,its,n,r,e⟩:=I.hok l _ hH
 exact⟨z,its,n,r,r.length,e⟩
theorem Zf7{n:Nat}(h:n≤sizeLine):Builtin.List.listTooLong n=false:=by
 unfold Builtin.List.listTooLong
 exact decide_eq_false (by omega)
end
section
variable{X:Cx}
def Zq5:V→List V→Hp→VK→Prop:=fun x vs H Q=>∃l xs y,x= .ref l∧vs=[y]∧H l=some (.lst xs)∧xs.length<sizeLine∧Q .non (upd H l (.lst (xs++[y])))
theorem Rh:MtM X "list.append" Zq5:=by
 intro pins s σ H x vs v us Q I rx rv h
 obtain⟨l,xs,y,rfl,rfl,hH,hz,q⟩:=h
 cases rx
 obtain⟨u,rfl,ru⟩:=rv.one
 obtain⟨z,its,n,r,hl,e⟩:=I.lstM hH
 refine call_meets F.slot_list_append ⟨_,e,rfl⟩ F.entry_list_append (F.args_list_append_2 _ _) (PySem.list_append l its.toArray n u (by rw[List.size_toArray];omega)) ⟨e,?_⟩
 refine⟨.non,_,I.lset (its':=its++[u]) hH e (by simp) (r.append (.cons ru .nil)) ?_,rfl,q⟩
 rw[List.length_append,List.length_singleton]
 omega
def rPop:V→List V→Hp→VK→Prop:=fun x vs H Q=>∃l xs y,x= .ref l∧vs=[]∧H l=some (.lst xs)∧xs[xs.length - 1]?=some y∧Q y (upd H l (.lst xs.dropLast))
theorem Y04:MtM X "list.pop" rPop:=by
 intro pins s σ H x vs v us Q I rx rv h
 obtain⟨l,xs,y,rfl,rfl,hH,hy,q⟩:=h
 cases rx
 have hus:=rv.zero
 subst hus
 obtain⟨z,its,n,r,hl,e⟩:=I.lstM hH
 obtain⟨u,hu,ru⟩:=r.get hy
 have hy':its.toArray[its.toArray.size - 1]?=some u:=by
  show its.toArray[its.length - 1]?=some u
  rw[←Array.getElem?_toList,←hl]
  exact hu
 refine call_meets F.slot_list_pop ⟨_,e,rfl⟩ F.entry_list_pop (F.args_list_pop_1 _) (MeetsSeq.list_pop_last l its.toArray n u hy' (by rw[List.size_toArray];omega)) ⟨e,?_⟩
 refine⟨y,_,I.lset (its':=its.dropLast) hH e ?_ r.dropLast ?_,ru,q⟩
 ·show its.toArray.eraseIdxIfInBounds (its.toArray.size - 1)=its.dropLast.toArray
  rw[List.size_toArray,List.eraseIdxIfInBounds_toArray,B5]
 ·rw[List.length_dropLast]
  omega
def Zf5:V→List V→Hp→VK→Prop:=fun x vs H Q=>∃l xs,x= .ref l∧vs=[]∧H l=some (.lst xs)∧Q .non (upd H l (.lst xs.reverse))
theorem C7:MtM X "list.reverse" Zf5:=by
 intro pins s σ H x vs v us Q I rx rv h
 obtain⟨l,xs,rfl,rfl,hH,q⟩:=h
 cases rx
 have hus:=rv.zero
 subst hus
 obtain⟨z,its,n,r,hl,e⟩:=I.lstM hH
 refine call_meets F.slot_list_reverse ⟨_,e,rfl⟩ F.entry_list_reverse (F.args_list_reverse_1 _) (AutoSeq1.list_reverse_list_0 l its.toArray n (by rw[List.size_toArray];omega)) ⟨e,?_⟩
 refine⟨.non,_,I.lset (its':=its.reverse) hH e (by simp) r.reverse ?_,rfl,q⟩
 rw[List.length_reverse]
 omega
def rCat:R2:=fun x y H Q=>∃l b xs zs,x= .ref l∧y= .ref b∧H l=some (.lst xs)∧H b=some (.lst zs)∧xs.length+zs.length≤sizeLine∧∀p,H p=none→Q (.ref p) (upd H p (.lst (xs++zs)))
theorem Zz6:OpR X (binaryOp .Add) rCat:=by
 intro pins s σ H x y v u Q I rx ry h
 obtain⟨l,b,xs,zs,rfl,rfl,hH,hB,hz,q⟩:=h
 cases rx
 cases ry
 obtain⟨z,its,n,r,hl,e⟩:=I.lstM hH
 obtain⟨z2,its2,n2,r2,hl2,e2⟩:=I.lstM hB
 refine PySem.P.add_list e e2 ?_ (by rw[List.size_toArray,List.size_toArray];omega)
 have ea:its.toArray++its2.toArray=(its++its2).toArray:=by simp
 rw[ea]
 exact⟨.ref _,_,I.lnew (t':=s.toks) (r.append r2) (by rw[List.length_append];omega),rfl,q _ I.fresh⟩
def rRep:R2:=fun x y H Q=>∃l k xs,x= .ref l∧y= .int k∧H l=some (.lst xs)∧ -(2 ^ 63)≤k∧k<2 ^ 63∧xs.length * k.toNat≤sizeLine∧
 ∀p,H p=none→Q (.ref p) (upd H p (.lst (List.replicate k.toNat xs).flatten))
theorem Zm8{α:Type}(xs:List α)(k:Nat):(List.replicate k xs).flatten.length=k * xs.length:=by
 induction k with
 | zero=>simp
 | succ k ih=>rw[List.replicate_succ,List.flatten_cons,List.length_append,ih,Nat.succ_mul,Nat.add_comm]
theorem Y33:OpR X (binaryOp .Mult) rRep:=by
 intro pins s σ H x y v u Q I rx ry h
 obtain⟨l,k,xs,rfl,rfl,hH,h1,h2,hz,q⟩:=h
 cases rx
 obtain⟨t,rfl⟩:=ry
 obtain⟨z,its,n,r,hl,e⟩:=I.lstM hH
 have hlen:its.toArray.size * k.toNat≤sizeLine:=by rw[List.size_toArray,←hl];exact hz
 have hcap:¬its.toArray.size * k.toNat >(2 ^ 63 - 1) / 8:=by
  have:(sizeLine:Nat)≤(2 ^ 63 - 1) / 8:=by decide
  omega
 have hfit:¬(!Builtin.List.listFitsIndex k)=true:=by
  rw[fitsIndex_both h1 h2]
  exact Bool.false_ne_true
 have hlong:¬Builtin.List.listTooLong (its.toArray.size * k.toNat)=true:=by
  rw[Zf7 hlen]
  exact Bool.false_ne_true
 have hnew:List.foldl (fun x1 x2=>x1++x2) #[] (List.replicate (if its.toArray.isEmpty=true then 0 else k.toNat) its.toArray)=(List.replicate k.toNat its).flatten.toArray:=by
  have f0:∀m:Nat,List.foldl (fun x1 x2=>x1++x2) #[] (List.replicate m its.toArray)=(List.replicate m its).flatten.toArray:=fun m=>by
   have:=Nu its m []
   rw[List.nil_append] at this
   exact this
  rw[f0]
  cases its with
  | nil=>simp
  | cons a r'=>rw[if_neg (by simp)]
 refine wpAny_binaryOp_repeat_ref (T:="list") (U:="int") (by decide) ⟨_,e,rfl⟩ (fun s'=>typeIs_int s' k t) noFill_list_mul F.fills_int_mul F.slot_int_rmul repeat_list F.slot_int_index.lookup
  (call_meets F.slot_int_rmul (typeIs_int s k t) F.entry_int_rmul (F.args_int_rmul_2 _ _) (int___rmul___int_list k t l its.toArray n)
   ⟨e,rfl,⟨_,e,rfl⟩,call_meets F.slot_list_mul ⟨_,e,rfl⟩ F.entry_list_mul (F.args_list_mul_2 _ _) (AutoListH.list___mul___list_int_3 l its.toArray n k t hfit hcap hlong) ⟨e,?_⟩⟩)
 rw[hnew]
 exact⟨.ref _,_,I.lnew (t':=s.toks) (r.rep k.toNat) (by rw[Zm8,Nat.mul_comm];exact hz),rfl,q _ I.fresh⟩
end
section
variable{prog:Program}{w:World}{A:Around}{E:Value→Shared→Prop}{s:Shared}
set_option maxRecDepth 100000 in
end
section
variable{X:Cx}
end
section
variable{κ:Type}[DecidableEq κ]
noncomputable def valV(kvs:List (κ×V))(k:κ):Option V:=(kvs.find? fun kv=>decide (kv.1=k)).map (·.2)
noncomputable def putK(kvs:List (κ×V))(k:κ)(v:V):List (κ×V):=
 if (kvs.any fun kv=>decide (kv.1=k))=true then kvs.map (fun kv=>if kv.1=k then(kv.1,v) else kv) else kvs++[(k,v)]
theorem O5{p:κ×V}{r:List (κ×V)}{k:κ}(e:p.1=k):valV (p::r) k=some p.2:=by simp[valV,List.find?_cons,e]
theorem Od{p:κ×V}{r:List (κ×V)}{k:κ}(e:¬p.1=k):valV (p::r) k=valV r k:=by simp[valV,List.find?_cons,e]
theorem E2(k:κ):∀kvs:List (κ×V),(kvs.any fun kv=>decide (kv.1=k))=(valV kvs k).isSome
 | []=>rfl
 | p::r=>by
  rw[List.any_cons]
  by_cases e:p.1=k
  ·simp only[O5 e,decide_eq_true e,Bool.true_or,Option.isSome_some]
  ·rw[Od e,decide_eq_false e,Bool.false_or];exact E2 k r
theorem Wl(kvs:List (κ×V))(k:κ)(v:V):(putK kvs k v).length≤kvs.length+1:=by
 unfold putK
 split
 ·rw[List.length_map];omega
 ·rw[List.length_append,List.length_cons,List.length_nil];omega
theorem RelO.isSome_eq{o:Option V}{u:Option Value}(r:RelO o u):o.isSome=u.isSome:=by
 cases o with
 | none=>cases u with
  | none=>rfl
  | some _=>exact(show False from r).elim
 | some _=>cases u with
  | none=>exact(show False from r).elim
  | some _=>rfl
theorem RelO.getD{o:Option V}{u:Option Value}{d:V}{d':Value}(r:RelO o u)(rd:RelV d d'):RelV (o.getD d) (u.getD d'):=by
 cases o with
 | none=>cases u with
  | none=>exact rd
  | some _=>exact(show False from r).elim
 | some _=>cases u with
  | none=>exact(show False from r).elim
  | some _=>exact r
theorem KV.val{kvs:List (κ×V)}{vs:List (κ×Value)}(r:KV kvs vs)(k:κ):RelO (valV kvs k) (valueAt vs k):=by
 unfold KV at r
 induction r with
 | nil=>exact True.intro
 | @cons p q ps qs h t ih=>
  obtain⟨h1,h2⟩:=h
  by_cases e:p.1=k
  ·have e':q.1=k:=h1.symm.trans e
   have b:valueAt (q::qs) k=some q.2:=by simp[valueAt,List.find?_cons,e']
   rw[O5 e,b];exact h2
  ·have e':¬q.1=k:=fun z=>e (h1.trans z)
   have b:valueAt (q::qs) k=valueAt qs k:=by simp[valueAt,List.find?_cons,e']
   rw[Od e,b];exact ih
theorem KV.any{kvs:List (κ×V)}{vs:List (κ×Value)}(r:KV kvs vs)(k:κ):(kvs.any fun kv=>decide (kv.1=k))=vs.any fun kv=>decide (kv.1=k):=by
 unfold KV at r
 induction r with
 | nil=>rfl
 | cons h t ih=>rw[List.any_cons,List.any_cons,ih,h.1]
theorem KV.repl{kvs:List (κ×V)}{vs:List (κ×Value)}(r:KV kvs vs)(k:κ){y:V}{u:Value}(ry:RelV y u):
  KV (kvs.map fun kv=>if kv.1=k then(kv.1,y) else kv) (vs.map fun kv=>if kv.1=k then(kv.1,u) else kv):=by
 unfold KV at r ⊢
 induction r with
 | nil=>exact .nil
 | @cons p q ps qs h t ih=>
  rw[List.map_cons,List.map_cons]
  refine .cons ?_ ih
  obtain⟨h1,h2⟩:=h
  by_cases e:p.1=k
  ·rw[if_pos e,if_pos (h1.symm.trans e)];exact⟨h1,ry⟩
  ·rw[if_neg e,if_neg (fun z=>e (h1.trans z))];exact⟨h1,h2⟩
theorem KV.put{kvs:List (κ×V)}{vs:List (κ×Value)}(r:KV kvs vs)(k:κ){y:V}{u:Value}(ry:RelV y u):KV (putK kvs k y) (stored vs k u):=by
 unfold putK stored
 rw[r.any k]
 by_cases e:(vs.any fun kv=>decide (kv.1=k))=true
 ·rw[if_pos e,if_pos e];exact r.repl k ry
 ·rw[if_neg e,if_neg e];exact Paired.snoc r ⟨rfl,ry⟩
theorem KV.length{kvs:List (κ×V)}{vs:List (κ×Value)}(r:KV kvs vs):kvs.length=vs.length:=Paired.length r
end
theorem N7{P:Program}{w:World}{k:Key}{u:Value}(r:RelV (kV k) u):(Y2 P w).is k u=true:=by
 cases k with
 | inl i=>obtain⟨t,e⟩:=(show ∃t,u=Value.int i t from r);subst e;exact G3 P w i t
 | inr x=>obtain⟨t,e⟩:=(show ∃t,u=Value.str x t from r);subst e;exact Js P w x t
theorem N4{P:Program}{w:World}:∀{ks:List Key} {us:List Value},Vals (ks.map kV) us→ItemsAre (Y2 P w) ks us
 | [],_,r=>by rw[List.map_nil] at r;cases r;exact .nil
 | k::ks,_,r=>by
  rw[List.map_cons] at r
  cases r with
  | cons h t=>exact .cons (N7 h) (N4 t)
abbrev KT(H:Hp):List (List Key×V)→List (List Key×Addr×Value)→Prop:=Paired fun p q=>p.1=q.1∧H q.2.1=some (.tup (p.1.map kV))∧RelV p.2 q.2.2
theorem KT.val{H:Hp}{kvs:List (List Key×V)}{xs:List (List Key×Addr×Value)}(r:KT H kvs xs)(k:List Key):RelO (valV kvs k) ((atKey xs k).map (·.2)):=by
 induction r with
 | nil=>exact True.intro
 | @cons p q ps qs h t ih=>
  obtain⟨h1,_,h2⟩:=h
  by_cases e:p.1=k
  ·have e':q.1=k:=h1.symm.trans e
   have b:atKey (q::qs) k=some q.2:=by simp[atKey,List.find?_cons,e']
   rw[O5 e,b];exact h2
  ·have e':¬q.1=k:=fun z=>e (h1.trans z)
   have b:atKey (q::qs) k=atKey qs k:=by simp[atKey,List.find?_cons,e']
   rw[Od e,b];exact ih
theorem KT.repl{H:Hp}{kvs:List (List Key×V)}{xs:List (List Key×Addr×Value)}(r:KT H kvs xs)(k:List Key){y:V}{u:Value}(ry:RelV y u):
  KT H (kvs.map fun kv=>if kv.1=k then(kv.1,y) else kv) (xs.map (putAt k u)):=by
 induction r with
 | nil=>exact .nil
 | @cons p q ps qs h t ih=>
  rw[List.map_cons,List.map_cons]
  refine .cons ?_ ih
  obtain⟨h1,h2,h3⟩:=h
  unfold putAt
  by_cases e:p.1=k
  ·rw[if_pos e,if_pos (h1.symm.trans e)];exact⟨h1,h2,ry⟩
  ·rw[if_neg e,if_neg (fun z=>e (h1.trans z))];exact⟨h1,h2,h3⟩
theorem KT.put{H:Hp}{kvs:List (List Key×V)}{xs:List (List Key×Addr×Value)}(r:KT H kvs xs)(k:List Key){b:Addr}{y:V}{u:Value}(hb:H b=some (.tup (k.map kV)))(ry:RelV y u):
  KT H (putK kvs k y) (storedH xs k b u):=by
 have e:(kvs.any fun kv=>decide (kv.1=k))=(atKey xs k).isSome:=by
  rw[E2,(r.val k).isSome_eq,Option.isSome_map]
 unfold putK storedH
 rw[e]
 by_cases q:(atKey xs k).isSome=true
 ·rw[if_pos q,if_pos q];exact r.repl k ry
 ·rw[if_neg q,if_neg q];exact Paired.snoc r ⟨rfl,hb,ry⟩
theorem KT.keeps{H H':Hp}{kvs:List (List Key×V)}{xs:List (List Key×Addr×Value)}(r:KT H kvs xs)(ht:∀b ys,H b=some (.tup ys)→H' b=some (.tup ys)):KT H' kvs xs:=
 Paired.mapP r fun _ _ z=>⟨z.1,ht _ _ z.2.1,z.2.2⟩
section
variable{P:Program}{w:World}{H:Hp}{h:Heap}{a:Addr}
theorem Y02{u:HO}(ok:HOk P w H h)(e:Rd H a u):Ys P w H h a u:=e.ok ok
theorem Na{kvs:List (Key×V)}(ok:HOk P w H h)(e:Rd H a (.dK kvs)):kvs.length≤sizeLine∧(a==sysModules)=false∧∃vs,KV kvs vs∧h.DictOf (Y2 P w) a vs:=
 show Ys P w H h a (.dK kvs) from Y02 ok e
theorem Jt{kvs:List (Key×V)}(ok:HOk P w H h)(e:H a=some (.dK kvs)):kvs.length≤sizeLine∧(a==sysModules)=false∧∃vs,KV kvs vs∧h.DictOf (Y2 P w) a vs:=Na ok (.inl e)
theorem Qg{ks:List Key}(ok:HOk P w H h)(e:H a=some (.tup (ks.map kV))):(tupleKind (Y2 P w)).is h ks a:=by
 obtain⟨_,its,r,o,h1,h2,n,h3⟩:=(show Ys P w H h a (.tup (ks.map kV)) from ok a _ e)
 exact⟨o,its.toArray,n,h1,h2,h3,by simpa using N4 r⟩
theorem Cb{kvs:List (List Key×V)}(ok:HOk P w H h)(e:Rd H a (.dT kvs)):kvs.length≤sizeLine∧(a==sysModules)=false∧
  ∃xs,KT H kvs xs∧h.DictOfH (tupleKind (Y2 P w)) a xs:=by
 obtain⟨z,y,xs,r,o,es,ep,h1,h2,h3,h4,h5⟩:=(show Ys P w H h a (.dT kvs) from Y02 ok e)
 refine⟨z,y,xs,r,o,es,ep,h1,h2,h3,h4,fun x hx=>?_,h5⟩
 have all:∀{l:List (List Key×V)} {m:List (List Key×Addr×Value)},KT H l m→∀x∈m,(tupleKind (Y2 P w)).is h x.1 x.2.1:=by
  intro l m q
  induction q with
  | nil=>intro x hx;exact nomatch hx
  | @cons p q ps qs hq t ih=>
   intro x hx
   rcases List.mem_cons.mp hx with e | hx
   ·subst e
    exact Qg ok (by rw[←hq.1];exact hq.2.1)
   ·exact ih x hx
 exact all r x hx
theorem Y84{kvs:List (List Key×V)}(ok:HOk P w H h)(e:H a=some (.dT kvs)):kvs.length≤sizeLine∧(a==sysModules)=false∧
  ∃xs,KT H kvs xs∧h.DictOfH (tupleKind (Y2 P w)) a xs:=Cb ok (.inl e)
end
def DGet(H:Hp)(a:Addr)(y:V)(r:Option V):Prop:=
 (∃kvs k,Rd H a (.dK kvs)∧y=kV k∧r=valV kvs k)∨∃kvs k b,Rd H a (.dT kvs)∧y= .ref b∧H b=some (.tup (k.map kV))∧r=valV kvs k
def DPut(H:Hp)(a:Addr)(y v:V)(H':Hp):Prop:=
 (∃kvs k,H a=some (.dK kvs)∧y=kV k∧kvs.length<sizeLine∧H'=upd H a (.dK (putK kvs k v)))∨
 ∃kvs k b,H a=some (.dT kvs)∧y= .ref b∧H b=some (.tup (k.map kV))∧kvs.length<sizeLine∧H'=upd H a (.dT (putK kvs k v))
theorem DGet.k{H:Hp}{a:Addr}{kvs:List (Key×V)}{k:Key}(e:H a=some (.dK kvs)):DGet H a (kV k) (valV kvs k):= .inl ⟨kvs,k,.inl e,rfl,rfl⟩
theorem DGet.t{H:Hp}{a b:Addr}{kvs:List (List Key×V)}{k:List Key}(e:H a=some (.dT kvs))(eb:H b=some (.tup (k.map kV))):DGet H a (.ref b) (valV kvs k):= .inr ⟨kvs,k,b,.inl e,rfl,eb,rfl⟩
theorem DPut.k{H:Hp}{a:Addr}{kvs:List (Key×V)}{k:Key}{v:V}(e:H a=some (.dK kvs))(hl:kvs.length<sizeLine):DPut H a (kV k) v (upd H a (.dK (putK kvs k v))):= .inl ⟨kvs,k,e,rfl,hl,rfl⟩
theorem DPut.t{H:Hp}{a b:Addr}{kvs:List (List Key×V)}{k:List Key}{v:V}(e:H a=some (.dT kvs))(eb:H b=some (.tup (k.map kV)))(hl:kvs.length<sizeLine):
  DPut H a (.ref b) v (upd H a (.dT (putK kvs k v))):= .inr ⟨kvs,k,b,e,rfl,eb,hl,rfl⟩
section
variable{X:Cx}{pins:List (Addr×Obj)}{σ:St}{H:Hp}{s:Shared}{a:Addr}{y v:V}{u r:Value}{o:Option V}{A:Around}{E:Value→Shared→Prop}
theorem Inv.big(I:Inv X pins σ H s):sysModules<s.heap.objs.size:=by
 have h:mainGlobals<s.heap.objs.size:=(I.mod.glob.keeps I.bk).lt
 exact Nat.lt_trans (by decide) h
theorem Z88{Q:Value→Shared→Prop}(hu:A.units+1<cLine)(I:Inv X pins σ H s)(g:DGet H a y (some v))(ry:RelV y u)(h:∀w' s',Inv X pins σ H s'→RelV v w'→Q w' s'):
  wpAny (model X.prog X.w) A (getItem (.ref a) u) Q E s:=by
 rcases g with⟨kvs,k,e,ey,l⟩ | ⟨kvs,k,b,e,ey,eb,l⟩
 ·subst ey
  obtain⟨z,hd,vs,rel,dd⟩:=Na I.hok e
  obtain⟨w',hw,rw'⟩:=RelO.some_of (v:=v) (o:=valueAt vs k) (by rw[l];exact rel.val k)
  exact wpAny_getItem_of (N7 ry) dd.mapOf hw (h w' _ (I.tok _) rw')
 ·subst ey
  cases (show u=Value.ref b from ry)
  obtain⟨z,hd,xs,rel,dd⟩:=Cb I.hok e
  obtain⟨w',hw,rw'⟩:=RelO.some_of (v:=v) (o:=(atKey xs k).map (·.2)) (by rw[l];exact rel.val k)
  obtain⟨p,hp,hp2⟩:=Option.map_eq_some_iff.mp hw
  refine wpAny_getItem_heap (tupleKind_room_in1 hu) (Qg I.hok eb) dd hp ?_
  rw[hp2]
  exact h w' _ (I.tok _) rw'
theorem d_in{Q:Value→Shared→Prop}(hu:A.units+1<cLine)(I:Inv X pins σ H s)(g:DGet H a y o)(ry:RelV y u)(h:∀s',Inv X pins σ H s'→Q (.bool o.isSome) s'):
  wpAny (model X.prog X.w) A (compareOp .In u (.ref a)) Q E s:=by
 rcases g with⟨kvs,k,e,ey,l⟩ | ⟨kvs,k,b,e,ey,eb,l⟩
 ·subst ey
  obtain⟨z,hd,vs,rel,dd⟩:=Na I.hok e
  refine wpAny_in_of (N7 ry) hd dd.mapOf ?_
  rw[←(rel.val k).isSome_eq,←l]
  exact h _ (I.tok _)
 ·subst ey
  cases (show u=Value.ref b from ry)
  obtain⟨z,hd,xs,rel,dd⟩:=Cb I.hok e
  refine wpAny_in_heap (tupleKind_room_in1 hu) (Qg I.hok eb) hd dd ?_
  have q:=(rel.val k).isSome_eq
  rw[Option.isSome_map] at q
  rw[←q,←l]
  exact h _ (I.tok _)
theorem Zr7{Q:Value→Shared→Prop}(hu:A.units+1<cLine)(I:Inv X pins σ H s)(g:DGet H a y o)(ry:RelV y u)(h:∀s',Inv X pins σ H s'→Q (.bool (!o.isSome)) s'):
  wpAny (model X.prog X.w) A (compareOp .NotIn u (.ref a)) Q E s:=by
 rcases g with⟨kvs,k,e,ey,l⟩ | ⟨kvs,k,b,e,ey,eb,l⟩
 ·subst ey
  obtain⟨z,hd,vs,rel,dd⟩:=Na I.hok e
  refine wpAny_notIn_of (N7 ry) hd dd.mapOf ?_
  rw[←(rel.val k).isSome_eq,←l]
  exact h _ (I.tok _)
 ·subst ey
  cases (show u=Value.ref b from ry)
  obtain⟨z,hd,xs,rel,dd⟩:=Cb I.hok e
  refine wpAny_notIn_heap (tupleKind_room_in1 hu) (Qg I.hok eb) hd dd ?_
  have q:=(rel.val k).isSome_eq
  rw[Option.isSome_map] at q
  rw[←q,←l]
  exact h _ (I.tok _)
theorem Po{h':Heap}{t':Nat}{ob:HO}(I:Inv X pins σ H s)(mu:Mut (H a))(hs:Heap.SameBut a s.heap h')(he:∃q,h'.get? a=some q)(new:Ys X.prog X.w (upd H a ob) h' a ob):
  Inv X pins σ (upd H a ob) {s with heap:=h',toks:=t'}:=
 I.write (x:=a) (e:=a) mu (.inl rfl) (fun b q hb z=>(hs.2 b hb).trans z) he new
theorem N3{P:Program}{w:World}{H':Hp}{h':Heap}{kvs:List (Key×V)}{vs:List (Key×Value)}(z:kvs.length≤sizeLine)(hd:(a==sysModules)=false)(rel:KV kvs vs)(dd:h'.DictOf (Y2 P w) a vs):
  Ys P w H' h' a (.dK kvs):=⟨z,hd,vs,rel,dd⟩
theorem Z70{H':Hp}{Q:Unit→Shared→Prop}(hu:A.units+1<cLine)(I:Inv X pins σ H s)(g:DPut H a y v H')(ry:RelV y u)(rv:RelV v r)(h:∀s',Inv X pins σ H' s'→Q () s'):
  wpAny (model X.prog X.w) A (setItem (.ref a) u r) Q E s:=by
 rcases g with⟨kvs,k,e,ey,l,eH⟩ | ⟨kvs,k,b,e,ey,eb,l,eH⟩
 ·subst ey eH
  obtain⟨z,hd,vs,rel,dd⟩:=Jt I.hok e
  have hz:vs.length≤sizeLine:=by rw[←rel.length];exact z
  have hl:(putK kvs k v).length≤sizeLine:=by have:=Wl kvs k v;omega
  refine wpAny_setItem_pairs (hsz:=hz) (N7 ry) dd fun h' dd' hs=>h _ ?_
  have he:∃q,h'.get? a=some q:=by obtain⟨q,_,_,hq,_⟩:=dd';exact⟨q,hq⟩
  exact Po I (by rw[e];exact True.intro) hs he (N3 hl hd (rel.put k rv) dd')
 ·subst ey eH
  cases (show u=Value.ref b from ry)
  obtain⟨z,hd,xs,rel,dd⟩:=Y84 I.hok e
  have hz:xs.length≤sizeLine:=by rw[←Paired.length rel];exact z
  have hl:(putK kvs k v).length≤sizeLine:=by have:=Wl kvs k v;omega
  refine wpAny_setItem_heap (hsz:=hz) (tupleKind_room_in1 hu) (Qg I.hok eb) dd fun h' dd' hs=>h _ ?_
  obtain⟨q,es,ep,hq,h2,h3,h4,_,h5⟩:=dd'
  refine Po I (by rw[e];exact True.intro) hs ⟨q,hq⟩ ⟨hl,hd,_,(rel.put k eb rv).keeps fun c ys ec=>?_,q,es,ep,hq,h2,h3,h4,h5⟩
  rw[Ze (Y50 ec e (fun z=>nomatch z))]
  exact ec
end
section
variable{X:Cx}{pins:List (Addr×Obj)}{σ:St}{H:Hp}{s:Shared}{a:Addr}{kvs:List (Key×V)}{k:Key}{u:Value}{A:Around}{E:Value→Shared→Prop}
theorem Zt1{Q:Value→Shared→Prop}(I:Inv X pins σ H s)(e:H a=some (.dK kvs))(h:∀s',Inv X pins σ (upd H a (.dK [])) s'→Q .none s'):wpAny (model X.prog X.w) A (call (.builtin "dict.clear") [.ref a]) Q E s:=by
 obtain⟨z,hd,vs,rel,dd⟩:=Jt I.hok e
 refine call_meetsIn PySem.F.slot_dict_clear dd.typeIs PySem.F.entry_dict_clear (PySem.F.args_dict_clear_1 _) (meets_dict_clear (Y2 X.prog X.w) a) ⟨vs,dd,by rw[←rel.length];exact z,fun h' dd' hs=>h _ ?_⟩
 have he:∃q,h'.get? a=some q:=by obtain⟨q,_,_,hq,_⟩:=dd';exact⟨q,hq⟩
 exact Po (t':=s.toks) I (by rw[e];exact True.intro) hs he (N3 (Nat.zero_le _) hd .nil dd')
theorem Y56{Q:Value→Shared→Prop}(I:Inv X pins σ H s)(e:Rd H a (.dK kvs))(h:∀t s',Inv X pins σ H s'→Q (.int kvs.length t) s'):wpAny (model X.prog X.w) A (call (.builtin "len") [.ref a]) Q E s:=by
 obtain⟨z,hd,vs,rel,dd⟩:=Na I.hok e
 refine call_len_dict hd dd (by rw[←rel.length];rw[sizeLine_eq] at z;omega) ?_
 rw[←rel.length]
 exact h _ _ (I.tok _)
end
theorem Gb{X:Cx}{pins:List (Addr×Obj)}{σ:St}{H:Hp}{s:Shared}{a:Addr}{y:V}{o:Option V}(I:Inv X pins σ H s)(g:DGet H a y o):s.TypeIs (.ref a) "dict":=by
 rcases g with⟨kvs,k,e,_,_⟩ | ⟨kvs,k,b,e,_,_,_⟩
 ·obtain⟨_,_,vs,_,dd⟩:=Na I.hok e
  exact dd.typeIs
 ·obtain⟨_,_,xs,_,dd⟩:=Cb I.hok e
  exact dd.typeIs
section
variable{X:Cx}{o i e value:Expr}{pos pos' tpos:Pos}{td ty tv:TE}
end
theorem Fx{P:Program}{w:World}{H:Hp}(h:Heap)(hb:sysModules<h.objs.size):Ys P w H (h.push {cls:= .type "dict",data:= .dict #[]}) h.objs.size (.dK []):=
 ⟨Nat.zero_le _,beq_eq_false_iff_ne.mpr (Ne.symm (Nat.ne_of_lt hb)),[],.nil,Heap.DictOf.new h⟩
def Zy2:TE:=fun _ H Q=>∀p,H p=none→Q (.ref p) (upd H p (.dK []))
section
variable{X:Cx}{pos:Pos}
theorem Zg4:PE X (.Dict [] [] pos) Zy2:=fun pins s σ H Q I h=>
 wpAny_Dict_empty ⟨.ref s.heap.objs.size,_,I.laid (a:=s.heap.objs.size) (o:= .dK []) (t':=s.toks) (fun _ _ q=>Heap.get?_push_of_some _ q) (Nat.le_refl _) (Fx s.heap I.big),rfl,h _ (I.hok.fresh (Nat.le_refl _))⟩
end
def Z93:List (TE×TE)→St→Hp→(List (V×V)→Hp→Prop)→Prop
 | [],_,H,Q=>Q [] H
 |(tk,tv)::r,σ,H,Q=>tk σ H fun x H1=>tv σ H1 fun y H2=>Z93 r σ H2 fun ps H3=>Q ((x,y)::ps) H3
abbrev VV:List (V×V)→List (Value×Value)→Prop:=Paired fun p q=>RelV p.1 q.1∧RelV p.2 q.2
def PPs(X:Cx)(pos:Pos)(keys:List (Option Expr))(values:List Expr)(trs:List (TE×TE)):Prop:=
 ∀(pins:List (Addr×Obj)) (s:Shared) (σ:St) (H:Hp) (Q:List (V×V)→Hp→Prop),Inv X pins σ H s→Z93 trs σ H Q→
  wpAny (model X.prog X.w) X.A (evalPairs (pairTrees keys values X.env pos)) (fun vs s'=>∃ps H',Inv X pins σ H' s'∧VV ps vs∧Q ps H') X.xe s
theorem Z59{X:Cx}{pos:Pos}:PPs X pos [] [] []:=fun pins s σ H Q I h=>pairTrees_nil_walk ⟨[],H,I,.nil,h⟩
theorem Pj{X:Cx}{pos:Pos}{k v:Expr}{ks:List (Option Expr)}{vs:List Expr}{tk tv:TE}{trs:List (TE×TE)}(hk:PE X k tk)(hv:PE X v tv)(hr:PPs X pos ks vs trs):
  PPs X pos (some k::ks) (v::vs) ((tk,tv)::trs):=fun pins s σ H Q I h=>
 pairTrees_cons_walk (thn (hk pins s σ H _ I h) fun u s1 ⟨x,H1,I1,rx,q1⟩=>thn (hv pins s1 σ H1 _ I1 q1) fun w2 s2 ⟨y,H2,I2,ry,q2⟩=>
  thn (hr pins s2 σ H2 _ I2 q2) fun ws s3 zz41=>by obtain⟨ps,H3,I3,rel,q3⟩:=zz41;exact⟨(x,y)::ps,H3,I3,.cons ⟨rx,ry⟩ rel,q3⟩)
noncomputable def Ri(kvs more:List (Key×V)):List (Key×V):=more.foldl (fun acc kv=>putK acc kv.1 kv.2) kvs
theorem KV.merge:∀{more:List (Key×V)} {rs:List (Key×Value)} {kvs:List (Key×V)} {vs:List (Key×Value)},KV more rs→KV kvs vs→KV (Ri kvs more) (merged vs rs):=by
 intro more rs kvs vs r
 unfold KV at r
 induction r generalizing kvs vs with
 | nil=>intro q;exact q
 | @cons p q ps qs h t ih=>
  intro r0
  have e:KV (putK kvs p.1 p.2) (stored vs q.1 q.2):=by
   have:=r0.put p.1 h.2
   rw[←h.1];exact this
  exact ih e
theorem Vz:∀(more kvs:List (Key×V)),(Ri kvs more).length≤kvs.length+more.length
 | [],kvs=>by show kvs.length≤kvs.length+0;omega
 | p::r,kvs=>by
  have h1:=Vz r (putK kvs p.1 p.2)
  have h2:=Wl kvs p.1 p.2
  show(Ri (putK kvs p.1 p.2) r).length≤_
  rw[List.length_cons];omega
theorem Qh{P:Program}{w:World}:∀{kvs:List (Key×V)} {ws:List (Value×Value)},VV (kvs.map fun kv=>(kV kv.1,kv.2)) ws→∃rs,Carries (Y2 P w) ws rs∧KV kvs rs
 | [],_,r=>by rw[List.map_nil] at r;cases r;exact⟨[],True.intro,.nil⟩
 | p::kvs,_,r=>by
  rw[List.map_cons] at r
  cases r with
  | @cons a b as bs h t=>
   obtain⟨rs,c,q⟩:=Qh (P:=P) (w:=w) t
   obtain⟨b1,b2⟩:=b
   exact⟨(p.1,b2)::rs,⟨N7 h.1,rfl,c⟩,.cons ⟨rfl,h.2⟩ q⟩
def Y74(trs:List (TE×TE)):TE:=fun σ H Q=>∀p,H p=none→Z93 trs σ (upd H p (.dK [])) fun ps H2=>H2 p=some (.dK [])∧∃kvs:List (Key×V),ps=kvs.map (fun kv=>(kV kv.1,kv.2))∧kvs.length≤15∧Q (.ref p) (upd H2 p (.dK (Ri [] kvs)))
theorem Z50{X:Cx}{pos:Pos}{keys:List (Option Expr)}{values:List Expr}{trs:List (TE×TE)}(h:PPs X pos keys values trs)(hall:keys.all (·.isSome)=true)(hl:keys.length=values.length)(h0:keys≠[])
  (h15:keys.length≤15):PE X (.Dict keys values pos) (Y74 trs):=by
 intro pins s σ H Q I q
 have hn:=I.hok.fresh (Nat.le_refl s.heap.objs.size)
 have I1:=I.laid (a:=s.heap.objs.size) (o:= .dK []) (h':=s.heap.push {cls:= .type "dict",data:= .dict #[]}) (t':=s.toks) (fun _ _ q=>Heap.get?_push_of_some _ q) (Nat.le_refl _) (Fx s.heap I.big)
 refine wpAny_Dict_walk (knd:=Y2 X.prog X.w) hall hl h0 h15 (thn (h pins _ σ _ _ I1 (q _ hn)) fun ws s2 zz42=>?_)
 obtain⟨ps,H2,I2,rel,e,kvs,ep,lk,q2⟩:=zz42
 subst ep
 obtain⟨rs,c,rk⟩:=Qh (P:=X.prog) (w:=X.w) rel
 obtain⟨z,hd,vs0,r0,dd⟩:=Jt I2.hok e
 cases r0
 refine⟨rs,c,dd,fun h' dd' hs=>⟨.ref s.heap.objs.size,_,?_,rfl,q2⟩⟩
 have hz:(Ri [] kvs).length≤sizeLine:=by
  have h1:=Vz kvs []
  rw[List.length_nil] at h1
  rw[sizeLine_eq];omega
 have he:∃q,h'.get? s.heap.objs.size=some q:=by obtain⟨q,_,_,hq,_⟩:=dd';exact⟨q,hq⟩
 exact Po I2 (by rw[e];exact True.intro) hs he (N3 hz hd (rk.merge .nil) dd')
structure M1(X:Cx)(o:Expr)(m:Str)(apos:Pos)(e:Expr)(cpos:Pos):Prop where
 base:attributeBase o m X.env (eval o X.env)=eval o X.env
 few:((backTo cpos (starEach [e] X.env)).all (fun x=> !x.1)&&(backToKw cpos (keywordEach [] X.env)).all (fun x=>x.1.isSome)
  &&decide (([e]:List Expr).length+([]:List Keyword).length+(if ([]:List Keyword).isEmpty then 0 else 1)<30))=true
 line:(apos.endLine==cpos.line)=true
 trees:backTo cpos (starEach [e] X.env)=[(false,eval e X.env)]
structure M2(X:Cx)(o:Expr)(m:Str)(apos:Pos)(e f:Expr)(cpos:Pos):Prop where
 base:attributeBase o m X.env (eval o X.env)=eval o X.env
 few:((backTo cpos (starEach [e,f] X.env)).all (fun x=> !x.1)&&(backToKw cpos (keywordEach [] X.env)).all (fun x=>x.1.isSome)
  &&decide (([e,f]:List Expr).length+([]:List Keyword).length+(if ([]:List Keyword).isEmpty then 0 else 1)<30))=true
 line:(apos.endLine==cpos.line)=true
 trees:backTo cpos (starEach [e,f] X.env)=[(false,eval e X.env),(false,eval f X.env)]
section
variable{X:Cx}{pins:List (Addr×Obj)}{σ:St}{H:Hp}{s:Shared}{a:Addr}{y d:V}{u r:Value}{o:Option V}{A:Around}{E:Value→Shared→Prop}
theorem Y16{Q:Value→Shared→Prop}(hu:A.units+1<cLine)(I:Inv X pins σ H s)(g:DGet H a y o)(ry:RelV y u)(rd:RelV d r)(h:∀w' s',Inv X pins σ H s'→RelV (o.getD d) w'→Q w' s'):
  wpAny (model X.prog X.w) A (call (.builtin "dict.get") [.ref a,u,r]) Q E s:=by
 rcases g with⟨kvs,k,e,ey,l⟩ | ⟨kvs,k,b,e,ey,eb,l⟩
 ·subst ey
  obtain⟨z,hd,vs,rel,dd⟩:=Na I.hok e
  refine call_meetsIn PySem.F.slot_dict_get dd.typeIs PySem.F.entry_dict_get (PySem.F.args_dict_get_3 _ _ _) (meets_dict_get_default (Y2 X.prog X.w) a (N7 ry) hd r) ⟨_,dd.mapOf,h _ _ (I.tok _) ?_⟩
  rw[l]
  exact(rel.val k).getD rd
 ·subst ey
  cases (show u=Value.ref b from ry)
  obtain⟨z,hd,xs,rel,dd⟩:=Cb I.hok e
  refine call_meetsIn PySem.F.slot_dict_get dd.typeIs PySem.F.entry_dict_get (PySem.F.args_dict_get_3 _ _ _) (meetsH_dict_get_default (tupleKind (Y2 X.prog X.w)) a b hd r) ⟨tupleKind_room_in1 hu,k,xs,Qg I.hok eb,dd,h _ _ (I.tok _) ?_⟩
  rw[l]
  exact(rel.val k).getD rd
end
section
variable{X:Cx}{o e f:Expr}{apos cpos:Pos}{td ty tx:TE}
end
section
variable{X:Cx}{pins:List (Addr×Obj)}{σ:St}{H:Hp}{s:Shared}{a:Addr}{kvs:List (Key×V)}{A:Around}{E:Value→Shared→Prop}
theorem Zd3{Q:Value→Shared→Prop}(I:Inv X pins σ H s)(e:Rd H a (.dK kvs))(h:∀p s',H p=none→Inv X pins σ (upd H p (.dK kvs)) s'→Q (.ref p) s'):wpAny (model X.prog X.w) A (call (.type "dict") [.ref a]) Q E s:=by
 obtain⟨z,hd,vs,rel,dd⟩:=Na I.hok e
 refine kt_call_dict hd dd (by rw[←rel.length];exact z) fun h' dd' hs=>?_
 refine h _ _ (I.hok.fresh (Nat.le_refl _)) (I.laid (a:=s.heap.objs.size) (o:= .dK kvs) (t':=s.toks) (fun b q hq=>?_) (Nat.le_refl _) (N3 z (beq_eq_false_iff_ne.mpr (Ne.symm (Nat.ne_of_lt I.big))) rel dd'))
 exact(hs.2 b (Nat.ne_of_lt (Heap.lt_size hq))).trans (Heap.get?_push_of_some _ hq)
end
section
variable{X:Cx}{pins:List (Addr×Obj)}{σ:St}{H:Hp}{s:Shared}{a:Addr}{y:V}{u:Value}{A:Around}{E:Value→Shared→Prop}
end
end L2
namespace Att
open PySem PySem.W PySem.Calls PyProof.Rows
theorem R8{P:Params}{h:Heap}:∀(ns:List Int) (vs:List Value),WellAll P h vs (ns.map WData.int)→IntsAre vs ns:=by
 intro ns
 induction ns with
 | nil=>
  intro vs w
  rw[List.map_nil] at w
  cases w
  exact .nil
 | cons n ns ih=>
  intro vs w
  rw[List.map_cons] at w
  cases w with
  | cons a b=>
   cases a
   exact .cons _ _ (ih _ b)
theorem script_of{l:OpenLaw}{n:Nat}(hn:l.most=some n){P:Params}{h:Heap}{args:List WData}{vals:List Value}
  (hpre:l.row.toRowW.claim.pre args=true) (hwl:WellAll P h vals args):
  ∃a vs ns,vals=[Value.ref a]∧args=[WData.list (ns.map WData.int)]∧h.get? a=some {cls:= .type "list",data:= .seq vs.toArray}∧IntsAre vs ns∧ns.length≤n:=by
 have hsh:WShape.hasAll [] args [.list .int]=true:=(pre_splitW hpre).1
 have hc:l.pre.holds [] {args:=args}=true:=(pre_splitW hpre).2
 obtain⟨d,r,rfl,h1,h2⟩:=hasAllW_cons hsh
 obtain rfl:=hasAllW_nil h2
 obtain⟨xs,rfl,h3⟩:=hasW_list h1
 obtain⟨ns,rfl⟩:=items_int h3
 have hlen:ns.length≤n:=by
  unfold OpenLaw.pre at hc
  have h4:(WTm.not (.lt (.lit (.int (n:Int))) (.len (.arg 0)))).holds [] {args:=[.list (ns.map .int)]}=true:=by
   have h4:=(holds_andW hc).1
   rw[hn] at h4
   exact h4
  have h5:=condW_of h4 (w_not (w_lt w_lit (w_len_list (w_arg rfl))))
  rw[List.length_map] at h5
  refine Nat.le_of_not_lt fun q=>?_
  have q':(n:Int)< ((ns.length:Nat):Int):=by omega
  first
   |(rw[decide_eq_true q'] at h5;exact absurd h5 (by decide))
   |(simp at h5;omega)
 cases hwl with
 | cons w1 w2=>
  cases w2
  cases w1 with
  | list ho hall=>exact⟨_,_,ns,rfl,rfl,ho,R8 ns _ hall,hlen⟩
theorem post_true(l:OpenLaw)(args:List WData):l.row.toRowW.claim.post args (.bool true) args=true:=
 postW_of (r:=l.row.toRowW) (X:=(true==true))
  (show WShape.has [] (.bool true) .bool=true by first | rfl | decide | simp[WShape.has,WShape.arms,WShape.armsAll])
  (show(WTm.eq .res (.lit (.bool true))).value [] {args:=args,res:=some (.bool true),after:=args}=some (.bool (true==true)) from w_eq_bool (w_res rfl) w_lit) rfl
section
variable{prog:Program}{w:World}{A:Around}{E:Value→Shared→Prop}{s:Shared}{K:Frag}
end
end Att
namespace L2
open PySem PySem.Spec PyProof.Rows
theorem Oq:∀{vs:List Value} {ns:List Int},IntsAre vs ns→Vals (ns.map V.int) vs
 | _,_,.nil=> .nil
 | _,_,.cons n t h=> .cons ⟨t,rfl⟩ (Oq h)
def Only(H:Hp):Prop:=∀b,H b=none∨∃o xs,H b=some (.frz o (.lst xs))
theorem Zf8{P:Program}{w:World}{K:PySem.W.Frag}{mg mb:Str→Option Value}{CX:CXT}{k:Nat}{fa a:Addr}{fd:FuncData}{x:Str}{sp:Sp}{s₁:Shared}{vs:List Value}{ns:List Int}
  (KX:K.In s₁.heap) (hns:s₁.heap.Ns mainGlobals mg) (hb:s₁.heap.Ns builtinsNs mb) (hbb:∀x:Str,x≠"__name__"→mb x=bootBuiltins x) (hlim:s₁.heap.NoLimit) (hg:s₁.gens=#[])
  (ha:s₁.heap.get? a=some {cls:= .type "list",data:= .seq vs.toArray}) (hi:IntsAre vs ns) (hl:ns.length≤sizeLine) (hr:Room k callerA)
  (F:∀base:Heap,K.In base→base.Ns mainGlobals mg→FnOk P w K mg base CX k fa fd [x] sp) (hbind:∀(s:Shared) (u:Value),BindsTo s fd ⟨[u],[]⟩ [(x,u)])
  (hsp:∀H:Hp,Only H→SqL K H a (ns.map V.int)→sp [.ref a] H (fun v _=>v= .bl true) fun _ _ _=>False)
  (hCX:∀H e s',CX [] H s₁ (fun _ _ _=>False) e s'→False):
  codeAny (model P w) callerA (.call (.ref fa) ⟨[.ref a],[]⟩) (fun r s'=>r= .ok (.ret (.bool true))∧OldK s₁.heap s'.heap∧s'.os=s₁.os∧AllBare s'.gens) s₁:=by
 have rv:=Oq hi
 have lenV:=hi.length
 have core:∀H:Hp,Only H→SqL K H a (ns.map V.int)→HOk P w H s₁.heap→(∀b,H b≠none→b=a)→(H a≠none→K.lookup a=none)→
   codeAny (model P w) callerA (.call (.ref fa) ⟨[.ref a],[]⟩) (fun r s'=>r= .ok (.ret (.bool true))∧OldK s₁.heap s'.heap∧s'.os=s₁.os∧AllBare s'.gens) s₁:=by
  intro H hO hS hok hA hK
  have base_of:∀{b:Addr} {o:Obj},s₁.heap.get? b=some o→H b=none→(hidT s₁.heap H).get? b=some o:=fun e n=>Za1 e n
  have noA:∀{b:Addr} {o:Obj} {es:Array DictEntry} {ep:Nat},s₁.heap.get? b=some o→o.data= .dict es ep→H b=none:=fun{b o es ep} e d=>by
   cases q:H b with
   | none=>rfl
   | some u=>
    have e':b=a:=hA b (by rw[q];simp)
    subst e'
    rw[ha] at e;cases e
    have d':Data.seq vs.toArray _=Data.dict es ep:=d
    cases d'
  have nsK:∀{b:Addr} {m:Str→Option Value},s₁.heap.Ns b m→(hidT s₁.heap H).Ns b m:=fun{b m} zz43=>by obtain⟨o,es,ep,e,d,r⟩:=zz43;exact⟨o,es,ep,base_of e (noA e d),d,r⟩
  have hKb:K.In (hidT s₁.heap H):=fun b o e=>base_of (KX b o e) (by
   cases q:H b with
   | none=>rfl
   | some u=>
    have e':b=a:=hA b (by rw[q];simp)
    subst e'
    rw[hK (by rw[q];simp)] at e;cases e)
  have hM:Mod K mg (hidT s₁.heap H):=⟨hKb,nsK hns,⟨mb,nsK hb,hbb⟩,let ⟨mc,h1,h2⟩:=hlim;⟨mc,nsK h1,h2⟩⟩
  have e0:Env0 P w K mg (hidT s₁.heap H) callerA [] s₁ H:=⟨rfl,hM,fun b o e=>Zl6 e,Nat.le_of_eq (Z86 _ _),trivial,fun b hb=>absurd (show b∈([]:List Addr) from hb) (by simp),hok,.of_eq hg⟩
  refine codeAny_mono ((F _ hKb (nsK hns)).run callerA [] s₁ H ⟨[.ref a],[]⟩ [.ref a] [.ref a] _ _ hr e0 (hbind s₁ (.ref a)) (.cons rfl .nil) (hsp H hO hS)) fun r s' h=>?_
  cases r with
  | error e=>exact(hCX H e s' h).elim
  | ok fl=>
   cases fl with
   | next=>exact False.elim h
   | brk=>exact False.elim h
   | cont=>exact False.elim h
   | ret u=>
    obtain⟨v,H',os,bare,un,hok',r',q⟩:=h
    have q':v= .bl true:=q
    subst q'
    obtain rfl:u=Value.bool true:=r'
    refine⟨rfl,OldK.of_keep fun b o e=>?_,os,bare⟩
    cases q:H b with
    | none=>exact un.keep b o e q (by intro z;exact absurd (show b∈([]:List Addr) from z) (by simp)) (by simp)
    | some u=>
     rcases hO b with z | ⟨ob,xs,z⟩
     ·rw[q] at z;cases z
     ·have z2:=un.frzs b ob _ z
      obtain⟨e1,_⟩:=hok b _ z
      obtain⟨e2,_⟩:=hok' b _ z2
      rw[e] at e1;cases e1
      exact e2
 cases hk:K.lookup a with
 | some o=>
  have e:=KX a o hk
  rw[ha] at e
  cases e
  refine core (fun _=>none) (fun _=> .inl rfl) (.inr ⟨_,vs.toArray,_,hk,rfl,rfl,rfl,by rw[List.size_toArray,lenV];exact hl,by simpa using rv⟩) (fun b u z=>by have z':(none:Option HO)=some u:=z;cases z') (fun b z=>absurd rfl z) fun z=>absurd rfl z
 | none=>
  refine core (fun b=>if b=a then some (.frz {cls:= .type "list",data:= .seq vs.toArray} (.lst (ns.map V.int))) else none) (fun b=>?_) (.inl (.inr ⟨{cls:= .type "list",data:= .seq vs.toArray},if_pos rfl⟩)) (fun b u z=>?_) (fun b z=>?_) fun _=>hk
  ·by_cases hb:b=a
   ·exact .inr ⟨_,_,if_pos hb⟩
   ·exact .inl (if_neg hb)
  ·by_cases hb:b=a
   ·have z':=(if_pos hb).symm.trans z
    cases z'
    subst hb
    exact⟨ha,by rw[List.length_map];exact hl,vs,_,rv,ha⟩
   ·have z':=(if_neg hb).symm.trans z
    cases z'
  ·by_cases hb:b=a
   ·exact hb
   ·exact absurd (if_neg hb) z
end L2
/- THE LAST THEOREM (shape;LID,My.* are yours):
  My.Adr:a structure of the addresses that your layer names (classes,functions);My.Txt K t:a structure (Prop) of the equations over K;
  My.txt_mk:{K} {implicit addresses ..} (e1:nsIn K mainGlobals "law"=some (some (.ref f))) (e2:K.lookup f=some ⟨oc,od,.func (fnOf "law" "law" params body scope dV kV doc pm an cdv ct),sl⟩) (e3:codeIn K cdv "law"=true) ..:∃t,My.Txt K t
set_option maxRecDepth 100000 in
set_option maxHeartbeats 0 in
theorem PySem.Challenge.cw_LID_holds : PySem.Challenge.rw_LID.Holds := by
 w_on;o_law;k_head;(case hw=>w_witness2)
 k_fill
 refine L2.walk_of (l:=PySem.Challenge.rw_LID) (n:=63) (k:=40) (x:="script") (CX:=fun w=> ..) (sp:=fun _=>My.sp_law) rfl (by decide) rfl ⟨rfl,by decide,by decide⟩ (fun w h Y=>PySem.W.kIn_of Y) ?F ?S ?C
 case F=>
  intro w mg fa h KX G hmg
  have T:∃t,My.Txt (L2.KOf KX) t:=by
   dsimp only[L2.KOf] -- K must stand as «<heap const>w.params» for k_is
   refine' My.txt_mk ?e1 ?e2 ?e3 ..
   (case e1=>PySem.W.k_is) -- in the order:a name ->its address ->its object ->its parts
   (case e2=>PySem.W.k_is)
   ..
  obtain⟨t,T⟩:=T
  have e0:=hmg.symm.trans (PySem.W.mg_of KX G T.law)
  cases e0 -- fa is the law's own address
  exact⟨_,fun s u=> .of_eq rfl,fun base kb nb=>My.law_fn T kb nb⟩ -- if «.of_eq rfl» comes too early:refine' ⟨_,?b,fun base kb nb=>My.law_fn T kb nb⟩;exact fun s u=> .of_eq rfl
 case S=>exact fun w H a ns hl hO hS=> ..
 case C=>exact ..
(the tactic k_is has no namespace:write k_is) -/
namespace L2
open PySem PySem.Spec PyProof.Rows
noncomputable def Zg(s:Stmt):Arguments:=match s with
 | .FunctionDef _ a _ _ _ _ _ _ _ _=>a
 | _=>{posonlyargs:=[],args:=[],vararg:=none,kwonlyargs:=[],kw_defaults:=[],kwarg:=none,defaults:=[]}
noncomputable def Z5(s:Stmt):List Stmt:=match s with
 | .FunctionDef _ _ b _ _ _ _ _ _ _=>b
 | _=>[]
noncomputable def Z2(s:Stmt):Scope:=match s with
 | .FunctionDef _ _ _ _ _ _ sc _ _ _=>sc
 | _=>{kind:= .function,names:=[],isGenerator:=false,isCoroutine:=false}
noncomputable abbrev CX0:CXT:=fun _ _ _ _ _ _=>False
abbrev E0:XK:=fun _ _ _=>False
structure Fun(K:PySem.W.Frag)(x qual:Str)(st:Stmt)(f:Addr)(fd:FuncData):Prop where
 ex:∃(oc:Value) (od:Option Addr) (dV kV doc pm:Value) (an:Option Addr) (cdv ct:Value) (osl:Array (Option Value)),
  fd=PySem.W.fnOf x qual (Zg st) (Z5 st) (Z2 st) dV kV doc pm an cdv ct∧K.lookup f=some ⟨oc,od,.func fd,osl⟩∧PySem.W.codeIn K cdv qual=true
 kp:PySem.W.keepIn K (.ref f)=true
section
variable{P:Program}{w:World}{K:PySem.W.Frag}{mg:Str→Option Value}{base:Heap}
theorem Fun.ok{x qual:Str}{st:Stmt}{f:Addr}{fd:FuncData}{N ps:List Str}{k:Nat}{sp:Sp}(F:Fun K x qual st f fd)(S:FnScope N ps (Z2 st))(len:∀vs H Q E,sp vs H Q E→vs.length=ps.length)
  (hbody:∀(cdv:Value) (A:Around) (outer:List Env) (s:Shared) (H:Hp) (vs:List V) (Q:VK) (E:XK),Room k (A.deeper (envOfC qual (Z2 st) s.heap.objs.size f cdv))→sp vs H Q E→
   ∃t,PSs (cxOf CX0 P w K mg base N qual (Z2 st) f cdv A outer s H E).nox (Z5 st) t∧t {nx:=fun _ H'=>Q .non H',rt:=Q} (start N vs) H):FnOk P w K mg base CX0 (k+1) f fd ps sp:=by
 obtain⟨oc,od,dV,kV,doc,pm,an,cdv,ct,osl,rfl,lk,hcd⟩:=F.ex
 refine Zu0 lk hcd S len fun A outer s H vs Q E hr hsp=>?_
 obtain⟨t,h,q⟩:=hbody cdv A outer s H vs Q E hr hsp
 exact⟨t,h.nox,q⟩
theorem Y9{x qual:Str}{st:Stmt}{f:Addr}{oc:Value}{od an:Option Addr}{osl:Array (Option Value)}{dV kV doc pm cdv ct:Value}(l:K.lookup f=some ⟨oc,od,.func (PySem.W.fnOf x qual (Zg st) (Z5 st) (Z2 st) dV kV doc pm an cdv ct),osl⟩)
  (c:PySem.W.codeIn K cdv qual=true) (k:PySem.W.keepIn K (.ref f)=true):Fun K x qual st f (PySem.W.fnOf x qual (Zg st) (Z5 st) (Z2 st) dV kV doc pm an cdv ct):=⟨⟨oc,od,dV,kV,doc,pm,an,cdv,ct,osl,rfl,l,c⟩,k⟩
end
section
variable{X:Cx}
end
section
variable{X:Cx}
theorem Z54:Vj X (.builtin "len") (fun xs H Q=>∃a kvs,xs=[V.ref a]∧H a=some (.dK kvs)∧Q (.int kvs.length) H):=by
 intro pins s σ H xs us Q I r h
 obtain⟨a,kvs,rfl,ha,q⟩:=h
 obtain⟨u,rfl,ru⟩:=Q4 r
 cases ru
 exact Y56 I (.inl ha) fun t s' I'=>⟨.int kvs.length,H,I',⟨t,rfl⟩,q⟩
end
section
variable{κ:Type}[DecidableEq κ]
end
end L2
namespace L3
open PySem PySem.Spec PyProof.Rows L2
def Bits(n:Nat)(x:Int):Prop:=x.natAbs<2 ^ n
theorem Qw{m n:Nat}(h:m<2 ^ n)(hn:0<n):m.log2<n:=by
 rcases Nat.eq_zero_or_pos m with h0 | h0
 ·rw[h0];exact hn
 ·exact(Nat.log2_lt (Nat.ne_of_gt h0)).mpr h
theorem Bits.mono{n m:Nat}{x:Int}(h:Bits n x)(k:n≤m):Bits m x:=Nat.lt_of_lt_of_le h (Nat.pow_le_pow_right (by decide) k)
theorem Bits.add{n:Nat}{x y:Int}(hx:Bits n x)(hy:Bits n y):Bits (n+1) (x+y):=by
 unfold Bits at *
 rw[Nat.pow_succ]
 omega
section
variable{X:Cx}
def Z81(_ j:Int):Prop:=j≠0∧j.natAbs.log2<9000
theorem Zi3:OpR X (binaryOp .FloorDiv) (rI Z81 fun i j=> .int (i.fdiv j)):=opI fun _ _ _ _ _ _ _ hc q=>floordiv_int hc.1 q (.inl (PyProof.noPylong_of_log2 hc.2))
theorem Zu3:OpR X (binaryOp .Mult) (rI IntMulOk fun i j=> .int (i * j)):=opI fun _ _ _ _ _ _ _ hc q=>mul_int q hc
def rIsB(K:PySem.W.Frag):List V→Hp→VK→Prop:=fun xs H Q=>∃x n t b,xs=[x,.ty n]∧TyOf K H x t∧PySem.W.kitOne K t (.type n)=some b∧Q (.bl b) H
theorem Ze3:Vj X (.builtin "isinstance") (rIsB X.K):=by
 intro pins s σ H xs us Q I r h
 obtain⟨x,n,t,b,rfl,ty,e,q⟩:=h
 obtain⟨u,v,rfl,ru,rv⟩:=Jk r
 obtain rfl:v=Value.type n:=rv
 exact Z07 I ru ty e fun tk=>⟨.bl b,H,I.tok tk,rfl,q⟩
end
mutual
def Rep(K:PySem.W.Frag)(H:Hp):PyData→V→Prop
 | .none,v=>v= .non
 | .bool b,v=>v= .bl b
 | .int i,v=>v= .int i
 | .str x,v=>v= .str x
 | .list ds,v=>∃a xs,v= .ref a∧SqL K H a xs∧Wd K H ds xs
 | .tuple ds,v=>∃a xs,v= .ref a∧SqT K H a xs∧Wd K H ds xs
 | .dict _,_=>False
def Wd(K:PySem.W.Frag)(H:Hp):List PyData→List V→Prop
 | [],xs=>xs=[]
 | d::ds,xs=>∃v vs,xs=v::vs∧Rep K H d v∧Wd K H ds vs
end
section
variable{X:Cx}{pins:List (Addr×Obj)}{σ:L2.St}{H:Hp}{s:Shared}
mutual
theorem Rep.reads(I:Inv X pins σ H s):∀(d:PyData) (v:V) (u:Value),Rep X.K H d v→RelV v u→∃as,Reads s.heap u d as
 | .none,v,u,h,r=>by
  unfold Rep at h;subst h
  cases (show u=Value.none from r)
  exact⟨[],.none⟩
 | .bool b,v,u,h,r=>by
  unfold Rep at h;subst h
  cases (show u=Value.bool b from r)
  exact⟨[],.bool b⟩
 | .int i,v,u,h,r=>by
  unfold Rep at h;subst h
  obtain⟨t,rfl⟩:=(show ∃t,u=Value.int i t from r)
  exact⟨[],.int i t⟩
 | .str x,v,u,h,r=>by
  unfold Rep at h;subst h
  obtain⟨t,rfl⟩:=(show ∃t,u=Value.str x t from r)
  exact⟨[],.str x t⟩
 | .list ds,v,u,h,r=>by
  unfold Rep at h
  obtain⟨a,xs,rfl,hq,ha⟩:=h
  cases (show u=Value.ref a from r)
  obtain⟨its,rv,⟨o,n,h1,h2,_,h4⟩,_⟩:=I.list hq
  obtain⟨as,hr⟩:=Wd.reads I ds xs its ha rv
  exact⟨_,.list h1 h2 h4 hr⟩
 | .tuple ds,v,u,h,r=>by
  unfold Rep at h
  obtain⟨a,xs,rfl,hq,ha⟩:=h
  cases (show u=Value.ref a from r)
  obtain⟨its,rv,⟨o,h1,h2,n,h4⟩,_⟩:=I.tuple hq
  obtain⟨as,hr⟩:=Wd.reads I ds xs its ha rv
  exact⟨_,.tuple h1 h2 h4 hr⟩
 | .dict kvs,v,u,h,r=>by
  unfold Rep at h
  exact h.elim
theorem Wd.reads(I:Inv X pins σ H s):∀(ds:List PyData) (xs:List V) (us:List Value),Wd X.K H ds xs→Vals xs us→∃as,ReadsAll s.heap us ds as
 | [],xs,us,h,r=>by
  unfold Wd at h;subst h
  cases r
  exact⟨[],.nil⟩
 | d::ds,xs,us,h,r=>by
  unfold Wd at h
  obtain⟨v,vs,rfl,h1,h2⟩:=h
  cases r with
  | cons r1 r2=>
   obtain⟨as,q1⟩:=Rep.reads I d v _ h1 r1
   obtain⟨bs,q2⟩:=Wd.reads I ds vs _ h2 r2
   exact⟨_,.cons q1 q2⟩
end
end
section
variable{X:Cx}
def rEqD(K:PySem.W.Frag)(neg:Bool):R2:=fun x y H Q=>∃da db,Rep K H da x∧Rep K H db y∧da.canLay0=true∧db.canLay0=true∧min da.depth db.depth≤60∧Q (.bl (if neg then !PyData.eqv da db else PyData.eqv da db)) H
theorem Zw8(hu:X.A.units+64<cLine):OpR X (compareOp .Eq) (rEqD X.K false):=by
 intro pins s σ H x y v u Q I rx ry h
 obtain⟨da,db,h1,h2,h3,h4,h5,q⟩:=h
 obtain⟨as,q1⟩:=Rep.reads I da x v h1 rx
 obtain⟨bs,q2⟩:=Rep.reads I db y u h2 ry
 exact PySem.SeqAt.compareEq_reads q1 q2 h3 h4 (by omega) ⟨.bl _,H,I,rfl,q⟩
end
end L3
namespace L3
open PySem PySem.W PySem.Calls PyProof.Rows L2
noncomputable def bigN:Nat:=1048576
theorem Sz:∀(ns:List Int) (i:Int),i∈ns→WData.weight (.int i)≤WData.weightAll (ns.map WData.int)
 | [],_,h=>nomatch h
 | n::r,i,h=>by
  rw[List.map_cons]
  have e:WData.weightAll (WData.int n::r.map WData.int)=WData.weight (.int n)+1+WData.weightAll (r.map WData.int):=by simp[WData.weightAll]
  rw[e]
  rcases List.mem_cons.mp h with q | q
  ·subst q;omega
  ·have:=Sz r i q;omega
theorem Sr{ns:List Int}(h:WData.layableAll [WData.list (ns.map WData.int)]=true):∀i∈ns,Bits bigN i:=by
 intro i hi
 have h1:WData.layable (WData.list (ns.map WData.int))=true:=by simpa[WData.layableAll] using h
 unfold WData.layable at h1
 rw[Bool.and_eq_true] at h1
 have h2:WData.weight (WData.list (ns.map WData.int))≤2 ^ 20:=of_decide_eq_true h1.2
 have h3:WData.weight (WData.list (ns.map WData.int))=WData.weightAll (ns.map WData.int):=by simp[WData.weight]
 have h4:=Sz ns i hi
 have h5:WData.weight (.int i)=if i==0 then 0 else i.natAbs.log2+1:=by simp[WData.weight]
 unfold Bits bigN
 by_cases h0:i=0
 ·subst h0;exact Nat.two_pow_pos _
 ·have hb:(i==0)=false:=by simpa using h0
  rw[hb] at h5
  have h6:i.natAbs.log2<1048576:=by
   have:(2:Nat) ^ 20=1048576:=by decide
   simp only[Bool.false_eq_true,if_false] at h5
   omega
  exact(Nat.log2_lt (by omega)).mp h6
theorem Je{l:OpenLaw}{n:Nat}{q:Program}{loose:List Str}{XP:(Str→Option Value)→Heap→Prop}{YP:World→Heap→Prop}{d:DefRec}(hn:l.most=some n)(hdf:d.params.defaults=[])
  (call:∀(w:World) (s₀ s₁:Shared) (mg mb:Str→Option Value) (fa:Addr) (o:Obj) (pm cd doc:Value) (a:Addr) (vs:List Value) (ns:List Int),
   Ground q loose [] XP w s₀ mg mb s₁.heap→YP w s₁.heap→mg d.name=some (.ref fa)→
   s₁.heap.get? a=some {cls:= .type "list",data:= .seq vs.toArray}→IntsAre vs ns→ns.length≤n→(∀i∈ns,Bits bigN i)→s₁.gens=#[]→
   codeAny (model l.prog w) callerA (.call (.ref fa) ⟨[.ref a],[]⟩) (fun r s'=>r= .ok (.ret (.bool true))∧OldK s₁.heap s'.heap∧s'.os=s₁.os∧AllBare s'.gens) s₁):
  WalkO q loose XP YP l.row.toRowW d [] (fun f vs=>PySem.call f vs):=by
 intro w s₀ s₁ mg mb G Y fa o pm cd doc dV kV ho hd hcd hD hmg hg args vals as hpre hlay hrd hwl hlo
 obtain⟨a,vs,ns,rfl,rfl,hobj,hints,hlen⟩:=Att.script_of hn hpre hwl
 refine enter_call (codeAny_mono (call w s₀ s₁ mg mb fa o pm cd doc a vs ns G Y hmg hobj hints hlen (Sr hlay) hg) fun r s' hq=>?_)
 obtain⟨rfl,h2,h3,h4⟩:=hq
 exact⟨.inl ⟨.bool true,.bool true,[],rfl,fun _=>rfl,.bool true,Att.post_true l _,fun _=>⟨List.Pairwise.nil,fun _ hm=>(nomatch hm)⟩⟩,h2,h3,h4⟩
theorem Zz1{l:PySem.W.OpenLaw}{n k:Nat}{q:Program}{loose:List Str}{XP:(Str→Option Value)→Heap→Prop}{YP:World→Heap→Prop}{d:DefRec}{K:Params→PySem.W.Frag}{CX:World→CXT}{sp:World→Sp}{x:Str}
  (hn:l.most=some n) (hn2:n≤sizeLine) (hdf:d.params.defaults=[]) (hr:Room k callerA) (hY:∀(w:World) (h:Heap),YP w h→(K w.params).In h)
  (F:∀(w:World) (mg:Str→Option Value) (fa:Addr) (h:Heap),(K w.params).In h→h.Ns mainGlobals mg→mg d.name=some (.ref fa)→
   ∃fd:FuncData,(∀(s:Shared) (u:Value),BindsTo s fd ⟨[u],[]⟩ [(x,u)])∧∀base:Heap,(K w.params).In base→base.Ns mainGlobals mg→FnOk l.prog w (K w.params) mg base (CX w) k fa fd [x] (sp w))
  (hsp:∀(w:World) (H:Hp) (a:Addr) (ns:List Int),ns.length≤n→(∀i∈ns,Bits bigN i)→Only H→SqL (K w.params) H a (ns.map V.int)→sp w [.ref a] H (fun v _=>v= .bl true) fun _ _ _=>False)
  (hCX:∀(w:World) (H:Hp) (s:Shared) (e:Value) (s':Shared),CX w [] H s (fun _ _ _=>False) e s'→False):
  PySem.W.WalkO q loose XP YP l.row.toRowW d [] (fun f vs=>PySem.call f vs):=by
 refine Je hn hdf fun w s₀ s₁ mg mb fa o pm cd doc a vs ns G Y hmg hobj hints hlen hbits hg=>?_
 have KX:=hY w _ Y
 obtain⟨fd,hb,hF⟩:=F w mg fa _ KX G.T.g hmg
 exact Zf8 KX G.T.g G.T.b G.T.builtins G.T.nolimit hg hobj hints (Nat.le_trans hlen hn2) hr hF hb (fun H hO hS=>hsp w H a ns hlen hbits hO hS) fun H e s'=>hCX w H s₁ e s'
end L3
namespace L3
open PySem
section
variable{P:Program}{w:World}{A:Around}{R:Result→Shared→Prop}{s:Shared}{elt tg iter c:Expr}{scope:Scope}{pos:Pos}{it acc:Value}{env:Env}
abbrev noE:Value→Shared→Prop:=fun _ _=>False
theorem Bi(I:Nat→Shared→Prop)
  (turn:∀n s,I n s→wpAny (model P w) A (pyNext it) (fun r s1=>match r with
   | none=>R (.ok .next) s1
   | some v=>wpAny (model P w) A (letOwnedTupleGo tg it v) (fun _ s2=>wpAny (model P w) A (assign tg env v) (fun _ s3=>wpAny (model P w) A (eval elt env) (fun x s4=>
     wpAny (model P w) A (call (.builtin "list.append") [acc,x]) (fun _ s5=>∃m,m<n∧I m s5) noE s4) noE s3) noE s2) noE s1) noE s)
  (n:Nat) (h:I n s):codeAny (model P w) A (.compLoop (.ListComp elt [⟨tg,iter,[],0⟩] scope pos) 0 it acc env) R s:=by
 refine codeAny_loop rfl I (fun m z hI=>?_) n h
 show wpAny _ A ((compTurn (.ListComp elt [⟨tg,iter,[],0⟩] scope pos) 0 it acc env).onRaise fun x=>do noteFrame x env;theTreesLotGoes x) _ _ z
 refine wpAny_noted ?_
 rw[compTurn_list1]
 refine wpAny_bind (wpAny_standAt (wpAny_bind (wpAny_mono (turn m z hI) (fun r s1 h1=>?_) fun _ _ f=>f.elim)))
 cases r with
 | none=>exact wpAny_pure h1
 | some v=>
  refine wpAny_bind (wpAny_mono h1 (fun _ s2 h2=>?_) fun _ _ f=>f.elim)
  refine wpAny_bind (wpAny_mono h2 (fun _ s3 h3=>?_) fun _ _ f=>f.elim)
  refine wpAny_bind (wpAny_bind (wpAny_mono h3 (fun x s4 h4=>?_) fun _ _ f=>f.elim))
  exact wpAny_bind (wpAny_mono h4 (fun _ s5 h5=>wpAny_pure (wpAny_pure ⟨rfl,h5⟩)) fun _ _ f=>f.elim)
theorem Bj(I:Nat→Shared→Prop)
  (turn:∀n s,I n s→wpAny (model P w) A (pyNext it) (fun r s1=>match r with
   | none=>R (.ok .next) s1
   | some v=>wpAny (model P w) A (letOwnedTupleGo tg it v) (fun _ s2=>wpAny (model P w) A (assign tg env v) (fun _ s3=>wpAny (model P w) A (isTrue c env (eval c env)) (fun ok s4=>
     if ok=true then wpAny (model P w) A (eval elt env) (fun x s5=>wpAny (model P w) A (call (.builtin "list.append") [acc,x]) (fun _ s6=>∃m,m<n∧I m s6) noE s5) noE s4
     else ∃m,m<n∧I m s4) noE s3) noE s2) noE s1) noE s)
  (n:Nat) (h:I n s):codeAny (model P w) A (.compLoop (.ListComp elt [⟨tg,iter,[c],0⟩] scope pos) 0 it acc env) R s:=by
 refine codeAny_loop rfl I (fun m z hI=>?_) n h
 show wpAny _ A ((compTurn (.ListComp elt [⟨tg,iter,[c],0⟩] scope pos) 0 it acc env).onRaise fun x=>do noteFrame x env;theTreesLotGoes x) _ _ z
 refine wpAny_noted ?_
 rw[compTurn_list]
 refine wpAny_bind (wpAny_standAt (wpAny_bind (wpAny_mono (turn m z hI) (fun r s1 h1=>?_) fun _ _ f=>f.elim)))
 cases r with
 | none=>exact wpAny_pure h1
 | some v=>
  refine wpAny_bind (wpAny_mono h1 (fun _ s2 h2=>?_) fun _ _ f=>f.elim)
  refine wpAny_bind (wpAny_mono h2 (fun _ s3 h3=>?_) fun _ _ f=>f.elim)
  refine wpAny_bind (wpAny_tests_one (wpAny_mono h3 (fun ok s4 h4=>?_) fun _ _ f=>f.elim))
  cases ok with
  | false=>exact wpAny_pure ⟨rfl,h4⟩
  | true=>
   refine wpAny_bind (wpAny_bind (wpAny_mono h4 (fun x s5 h5=>?_) fun _ _ f=>f.elim))
   exact wpAny_bind (wpAny_mono h5 (fun _ s6 h6=>wpAny_pure (wpAny_pure ⟨rfl,h6⟩)) fun _ _ f=>f.elim)
end
theorem Tg{env:Env}:∀(names:List (Str×NameKind)) (acc:List (Str×Addr)),(∀n,(n,NameKind.free)∈names→∃c,env.cells.lookup n=some c)→
  (∀x c,acc.lookup x=some c→env.cells.lookup x=some c)→
  ∃cl,(forIn names acc fun(x:Str×NameKind) (cs:List (Str×Addr))=>match x with
   |(name,kind)=>if (kind==NameKind.free)=true then do let c ←cellOf env name;pure (ForInStep.yield ((name,c)::cs)) else pure (ForInStep.yield cs):Sem (List (Str×Addr)))=pure cl∧
   (∀x c,cl.lookup x=some c→env.cells.lookup x=some c)∧(∀n,(n,NameKind.free)∈names→∃c,cl.lookup n=some c)∧∀x c,acc.lookup x=some c→∃c',cl.lookup x=some c'
 | [],acc,_,ha=>⟨acc,rfl,ha,(fun _ h=>nomatch h),fun x c e=>⟨c,e⟩⟩
 |(n,k)::r,acc,hn,ha=>by
  by_cases hk:k= .free
  ·subst hk
   obtain⟨c,hc⟩:=hn n List.mem_cons_self
   obtain⟨cl,e,h1,h2,h3⟩:=Tg r ((n,c)::acc) (fun m hm=>hn m (List.mem_cons_of_mem _ hm)) (fun x d hx=>by
    rw[List.lookup_cons] at hx
    cases q:x==n with
    | true=>rw[q] at hx;cases hx;rw[eq_of_beq q];exact hc
    | false=>rw[q] at hx;exact ha x d hx)
   refine⟨cl,?_,h1,fun m hm=>?_,fun x d hx=>?_⟩
   ·rw[List.forIn_cons]
    show(bind (bind (cellOf env n) _) _:Sem _)=_
    unfold cellOf
    rw[hc]
    exact e
   ·rcases List.mem_cons.mp hm with q | q
    ·cases q;exact h3 n c (by simp[List.lookup_cons])
    ·exact h2 m q
   ·cases q:x==n with
    | true=>exact h3 x c (by rw[List.lookup_cons,q])
    | false=>exact h3 x d (by rw[List.lookup_cons,q];exact hx)
  ·have hb:(k==NameKind.free)=false:=by simpa using hk
   obtain⟨cl,e,h1,h2,h3⟩:=Tg r acc (fun m hm=>hn m (List.mem_cons_of_mem _ hm)) ha
   refine⟨cl,?_,h1,fun m hm=>?_,h3⟩
   ·rw[List.forIn_cons]
    show(bind (if (k==NameKind.free)=true then _ else _) _:Sem _)=_
    rw[hb]
    exact e
   ·rcases List.mem_cons.mp hm with q | q
    ·cases q;exact absurd rfl hk
    ·exact h2 m q
theorem V4{env:Env}{scope:Scope}(hn:∀n,(n,NameKind.free)∈scope.names→∃c,env.cells.lookup n=some c):
  ∃cl,closureFor scope env=pure cl∧(∀x c,cl.lookup x=some c→env.cells.lookup x=some c)∧∀n,(n,NameKind.free)∈scope.names→∃c,cl.lookup n=some c:=by
 obtain⟨cl,e,h1,h2,_⟩:=Tg scope.names [] hn (fun x c h=>by cases h)
 refine⟨cl,?_,h1,h2⟩
 exact(congrArg (fun t:Sem (List (Str×Addr))=>bind t fun z=>pure z) e).trans rfl
end L3
namespace L3
open PySem PySem.Spec PyProof.Rows L2
noncomputable def cxC(X:Cx)(N':List Str)(scope:Scope)(cl:List (Str×Addr))(C:Addr)(fp:List Addr)(pins:List (Addr×Obj))(s:Shared)(H:Hp):Cx where
 prog:=X.prog
 w:=X.w
 K:=X.K
 mg:=X.mg
 base:=X.base
 A:=X.A
 N:=N'
 s₀:=s
 H₀:=H
 env:=compEnvC scope cl C X.env
 outer:=X.stack
 stack:=X.stack
 ex:=fp
 fn:=fun x=>scope.names.any fun y=>y.1==x&&y.2== .cell
 calm:=X.calm
 pn:=X.pn++pins
 xe:=noE
noncomputable def Wp(scope dsc:Scope):Scope:=
 {scope with names:=scope.names.map fun(n,k)=>if (k== .free&&dsc.kind== .function&&dsc.names.lookup n==some .cell) then(n,.cell) else(n,k)}
noncomputable def Tf(js:List (Option Nat))(σ:L2.St):L2.St:=js.map fun o=>o.bind fun j=>(σ[j]?).join
structure CompScope(dsc:Scope)(dN N':List Str)(js:List (Option Nat))(scope:Scope):Prop where
 kind:scope.kind= .function
 nd:(scope.names.map (·.1)).Nodup
 loc:∀y∈scope.names,y.2= .local→scope.names.lookup y.1=some .local
 len:js.length=N'.length
 cap:∀(i:Nat) (x:Str) (j:Nat),N'[i]?=some x→js[i]?=some (some j)→dN[j]?=some x∧(x,NameKind.free)∈scope.names
 free:∀n,(n,NameKind.free)∈scope.names→dsc.names.lookup n=some .cell∨dsc.names.lookup n=some .free
 seen:∀n,(n,NameKind.free)∈scope.names→(Wp scope dsc).names.lookup n=some .cell∨(Wp scope dsc).names.lookup n=some .free
noncomputable def Vr(dsc:Scope)(dN N':List Str)(js:List (Option Nat))(scope:Scope):Bool:=
 scope.kind== .function&&decide ((scope.names.map (·.1)).Nodup)&&scope.names.all (fun y=>y.2 != .local || scope.names.lookup y.1==some .local)&&js.length==N'.length&&
 (N'.zip js).all (fun p=>match p.2 with | some j=>dN[j]?==some p.1&&scope.names.contains (p.1,NameKind.free) | none=>true)&&
 scope.names.all (fun y=>y.2 != .free || ((dsc.names.lookup y.1==some .cell || dsc.names.lookup y.1==some .free)&&((Wp scope dsc).names.lookup y.1==some .cell || (Wp scope dsc).names.lookup y.1==some .free)))
theorem CompScope.of{dsc:Scope}{dN N':List Str}{js:List (Option Nat)}{scope:Scope}(h:Vr dsc dN N' js scope=true):CompScope dsc dN N' js scope:=by
 unfold Vr at h
 simp only[Bool.and_eq_true,List.all_eq_true,beq_iff_eq,bne_iff_ne,Bool.or_eq_true,decide_eq_true_eq] at h
 obtain⟨⟨⟨⟨⟨h1,h2⟩,h3⟩,h4⟩,h5⟩,h6⟩:=h
 refine⟨h1,h2,fun y hy hl=>(h3 y hy).resolve_left fun z=>z hl,h4,fun i x j e1 e2=>?_,fun n hn=>?_,fun n hn=>?_⟩
 ·have hm:(x,some j)∈N'.zip js:=List.mem_of_getElem? (i:=i) (by rw[List.getElem?_zip_eq_some];exact⟨e1,e2⟩)
  have q:=h5 _ hm
  simp only[Bool.and_eq_true,beq_iff_eq,List.contains_iff_mem] at q
  exact q
 ·exact((h6 _ hn).resolve_left fun z=>z rfl).1
 ·exact((h6 _ hn).resolve_left fun z=>z rfl).2
theorem Vp{env:Env}{x:Str}{k:NameKind}:∀{names:List (Str×NameKind)},
  (names.map fun(n,k)=>if (k==NameKind.free&&env.scope.kind== .function&&env.kindOf n==some .cell) then(n,NameKind.cell) else(n,k)).lookup x=some k→(k= .cell∨k= .free)→(x,NameKind.free)∈names∨(x,NameKind.cell)∈names
 | [],h,_=>by simp at h
 |(n,q)::r,h,hk=>by
  rw[List.map_cons] at h
  by_cases hx:x=n
  ·subst hx
   have hq:q= .free∨q= .cell:=by
    by_cases c:(q==NameKind.free&&env.scope.kind== .function&&env.kindOf x==some .cell)=true
    ·rw[Bool.and_eq_true,Bool.and_eq_true] at c
     exact .inl (eq_of_beq c.1.1)
    ·simp only[if_neg c] at h
     rw[List.lookup_cons,beq_self_eq_true] at h
     have e:q=k:=Option.some.inj h
     rcases hk with z | z
     ·exact .inr (e.trans z)
     ·exact .inl (e.trans z)
   rcases hq with rfl | rfl
   ·exact .inl List.mem_cons_self
   ·exact .inr List.mem_cons_self
  ·have hb:(x==n)=false:=by simpa using hx
   have rest:(r.map fun(n,k)=>if (k==NameKind.free&&env.scope.kind== .function&&env.kindOf n==some .cell) then(n,NameKind.cell) else(n,k)).lookup x=some k:=by
    by_cases c:(q==NameKind.free&&env.scope.kind== .function&&env.kindOf n==some .cell)=true
    ·simp only[if_pos c] at h
     rw[List.lookup_cons,hb] at h
     exact h
    ·simp only[if_neg c] at h
     rw[List.lookup_cons,hb] at h
     exact h
   exact(Vp (env:=env) rest hk).imp (List.mem_cons_of_mem _) (List.mem_cons_of_mem _)
structure BlockCells(X:Cx)(scope:Scope)(cl:List (Str×Addr))(sz:Nat)(h1:Heap):Prop where
 each:∀x c,cl.lookup x=some c→X.env.cells.lookup x=some c∨(sz<c∧h1.IsCell c none)
 free:∀n,(n,NameKind.free)∈scope.names→∃c,cl.lookup n=some c∧X.env.cells.lookup n=some c
 own:∀n,(n,NameKind.cell)∈scope.names→∃c,cl.lookup n=some c∧sz<c
 inj:∀x y c,cl.lookup x=some c→cl.lookup y=some c→sz<c→x=y
theorem T6{x:Str}:∀(names:List (Str×NameKind)) (n:Nat) (acc:List (Str×Addr)),(x,NameKind.cell)∉names→(cellsFrom n names acc).lookup x=acc.lookup x
 | [],_,_,_=>rfl
 |(y,k)::r,n,acc,h=>by
  have hr:(x,NameKind.cell)∉r:=fun z=>h (List.mem_cons_of_mem _ z)
  unfold cellsFrom
  split
  ·rename_i hk
   have hxy:(x==y)=false:=by
    rw[beq_eq_false_iff_ne]
    intro e
    apply h
    rw[e,←eq_of_beq hk]
    exact List.mem_cons_self
   rw[T6 r _ _ hr,List.lookup_cons,hxy]
  ·exact T6 r n acc hr
theorem Ry{x:Str}:∀(names:List (Str×NameKind)) (n:Nat) (acc:List (Str×Addr)),(x,NameKind.cell)∈names→∃c,(cellsFrom n names acc).lookup x=some c∧n≤c
 | [],_,_,h=>by cases h
 |(y,k)::r,n,acc,h=>by
  unfold cellsFrom
  by_cases hr:(x,NameKind.cell)∈r
  ·split
   ·obtain⟨c,e,l⟩:=Ry r (n+1) ((y,n)::acc) hr
    exact⟨c,e,by omega⟩
   ·exact Ry r n acc hr
  ·rcases List.mem_cons.mp h with e | e
   ·cases e
    rw[if_pos (by rfl),T6 r _ _ hr,List.lookup_cons,beq_self_eq_true]
    exact⟨n,rfl,Nat.le_refl _⟩
   ·exact absurd e hr
theorem Vq:∀(names:List (Str×NameKind)) (n:Nat) (acc cl:List (Str×Addr)),∃own,cellsFrom n names (acc++cl)=own++cl∧cellsFrom n names acc=own
 | [],n,acc,cl=>⟨acc,rfl,rfl⟩
 |(y,k)::r,n,acc,cl=>by
  unfold cellsFrom
  split
  ·exact Vq r (n+1) ((y,n)::acc) cl
  ·exact Vq r n acc cl
theorem V6{x:Str}{c:Addr}:∀{a b:List (Str×Addr)},(a++b).lookup x=some c→a.lookup x=some c∨b.lookup x=some c
 | [],b,h=> .inr h
 |(y,d)::a,b,h=>by
  rw[List.cons_append,List.lookup_cons] at h
  rw[List.lookup_cons]
  cases e:x==y with
  | true=>rw[e] at h;exact .inl h
  | false=>rw[e] at h;exact V6 h
theorem Qz{X:Cx}{pins:List (Addr×Obj)}{σ:L2.St}{H:Hp}{s:Shared}{scope:Scope}{cl:List (Str×Addr)}(nd:(scope.names.map (·.1)).Nodup)(I:Inv X pins σ H s)(o:Obj)
  (c1:∀x c,cl.lookup x=some c→X.env.cells.lookup x=some c) (c2:∀n,(n,NameKind.free)∈scope.names→∃c,cl.lookup n=some c):
  BlockCells X scope (cellsFrom (s.heap.objs.size+1) scope.names cl) s.heap.objs.size (pushCells (s.heap.push o) scope.names):=by
 obtain⟨own,e1,e2⟩:=Vq scope.names (s.heap.objs.size+1) [] cl
 rw[List.nil_append] at e1
 have ok:=cellsFrom_ok scope.names (s.heap.push o) (s.heap.objs.size+1) [] ⟨fun _ _ hm=>(nomatch hm),List.Pairwise.nil⟩ (by rw[Heap.size_push];exact Nat.le_refl _)
 rw[Heap.size_push,e2] at ok
 have old:∀x c,cl.lookup x=some c→c<s.heap.objs.size:=by
  intro x c e
  obtain⟨v,q⟩:=I.cell x c (c1 x c e)
  exact q.lt
 have one:∀{n:Str},(n,NameKind.free)∈scope.names→(n,NameKind.cell)∉scope.names:=by
  intro n h1 h2
  have key:∀(l:List (Str×NameKind)),(l.map (·.1)).Nodup→(n,NameKind.free)∈l→(n,NameKind.cell)∈l→False:=by
   intro l
   induction l with
   | nil=>intro _ h;cases h
   | cons y r ih=>
    intro hn a b
    rw[List.map_cons,List.nodup_cons] at hn
    rcases List.mem_cons.mp a with e1 | a2
    ·rcases List.mem_cons.mp b with e2 | b2
     ·rw[←e1] at e2;cases e2
     ·exact hn.1 (List.mem_map.mpr ⟨_,b2,by rw[←e1]⟩)
    ·rcases List.mem_cons.mp b with e2 | b2
     ·exact hn.1 (List.mem_map.mpr ⟨_,a2,by rw[←e2]⟩)
     ·exact ih hn.2 a2 b2
  exact key _ nd h1 h2
 refine⟨fun x c e=>?_,fun n hn=>?_,fun n hn=>?_,fun x y c hx hy hc=>?_⟩
 ·rw[e1] at e
  rcases V6 e with z | z
  ·obtain⟨a,b⟩:=ok.empty x c (mem_of_lookup z)
   exact .inr ⟨b,a⟩
  ·exact .inl (c1 x c z)
 ·obtain⟨c,hc⟩:=c2 n hn
  refine⟨c,?_,c1 n c hc⟩
  rw[T6 _ _ _ (one hn)]
  exact hc
 ·obtain⟨c,a,b⟩:=Ry scope.names (s.heap.objs.size+1) cl hn
  exact⟨c,a,b⟩
 ·rw[e1] at hx hy
  rcases V6 hx with z | z
  ·rcases V6 hy with z2 | z2
   ·exact name_of_addr ok.apart (mem_of_lookup z) (mem_of_lookup z2)
   ·exact absurd (old y c z2) (Nat.lt_asymm hc)
  ·exact absurd (old x c z) (Nat.lt_asymm hc)
theorem Qy{M:Model}{A:Around}{E:Value→Shared→Prop}{s:Shared}{scope:Scope}{globals:Addr}{cl:List (Str×Addr)}{qual:Str}{o:Env}{Q:Env→Shared→Prop}
  (hQ:Q {scope:=scope,locals:=s.heap.objs.size,globals:=globals,cells:=cellsFrom (s.heap.objs.size+1) scope.names cl,qual:=qual,func:=none,code:=o.code,frame:=o.frame,builtins:=o.builtins} {s with heap:=pushCells (s.heap.push {cls:= .type "dict",data:= .dict #[]}) scope.names}):
  wpAny M A (newFunctionEnv scope globals cl [] qual none .none (some o)) Q E s:=by
 simp only[newFunctionEnv,Option.isSome_some,if_true]
 refine wpAny_bind (wpAny_alloc ?_)
 refine wpAny_bind (wpAny_layCells _ (fun name kind cells=>by cases hkc:kind==NameKind.cell<;>simp[hkc]) _ _ _ _ ?_)
 rw[show({s with heap:=s.heap.push {cls:= .type "dict",data:= .dict #[]}}:Shared).heap.objs.size=s.heap.objs.size+1 from Heap.size_push ..]
 rw[List.forIn_nil]
 exact wpAny_bind (wpAny_pure (wpAny_pure hQ))
section
variable{X:Cx}{elt tg iter c:Expr}{scope:Scope}{pos:Pos}{N':List Str}{js:List (Option Nat)}{wi:TI}{g:TG}{te:TE}{tc:TT}
theorem Qd{N':List Str}{js:List (Option Nat)}{pins:List (Addr×Obj)}{σ:L2.St}{H:Hp}{s:Shared}{cl:List (Str×Addr)}{fp:List Addr}{h1:Heap}{tk:Nat}(S:CompScope X.env.scope X.N N' js scope)(I:Inv X pins σ H s)
  (bc:BlockCells X scope cl s.heap.objs.size h1) (hf:∀b∈fp,FpOk X pins H b) (hlt:∀b∈fp,b<s.heap.objs.size)
  {m:Str→Option Value} (hn:h1.Ns s.heap.objs.size m) (hk:∀b o,s.heap.get? b=some o→h1.get? b=some o):
  Inv (cxC X N' scope cl s.heap.objs.size fp pins s H) [] (Tf js σ) H {s with heap:=h1,toks:=tk}:=by
 have ok:(cxC X N' scope cl s.heap.objs.size fp pins s H).Ok:=by
  refine⟨I.ok.mod,S.kind,I.ok.glob,I.ok.blt,Nat.le_refl _,fun x y c h1 h2=>?_,fun x hx=>?_,fun x c hx e=>?_,I.ok.hd,I.ok.frames,.inl rfl,fun b hb=>⟨Nat.ne_of_lt (hlt b hb),fun x c e=>?_⟩,
   I.bs,Nat.le_trans I.ok.bsz I.sz,fun b o e hb=>?_,fun b hb hx=>?_,I.stack,I.stkFree⟩
  ·rcases bc.each x c h1 with z | z
   ·rcases bc.each y c h2 with z2 | z2
    ·exact I.ok.inj x y c z z2
    ·exact bc.inj x y c h1 h2 z2.1
   ·exact bc.inj x y c h1 h2 z.1
  ·have hx':(relabel scope X.env).names.lookup x=some .cell∨(relabel scope X.env).names.lookup x=some .free:=hx
   have hm:(x,NameKind.free)∈scope.names∨(x,NameKind.cell)∈scope.names:=by
    rcases hx' with z | z
    ·exact Vp z (.inl rfl)
    ·exact Vp z (.inr rfl)
   rcases hm with z | z
   ·obtain⟨c,e,_⟩:=bc.free x z;exact⟨c,e⟩
   ·obtain⟨c,e,_⟩:=bc.own x z;exact⟨c,e⟩
  ·have hx':(scope.names.any fun y=>y.1==x&&y.2==NameKind.cell)=true:=hx
   rw[List.any_eq_true] at hx'
   obtain⟨⟨y,k⟩,hm,hy⟩:=hx'
   rw[Bool.and_eq_true] at hy
   have e1:y=x:=eq_of_beq hy.1
   have e2:k= .cell:=eq_of_beq hy.2
   subst e1 e2
   obtain⟨c',e',l⟩:=bc.own _ hm
   have:c'=c:=Option.some.inj (e'.symm.trans e)
   subst this
   exact Nat.le_of_lt l
  ·rcases bc.each x c e with z | z
   ·exact(hf b hb).2.2.2.2.1 x c z
   ·exact fun q=>absurd z.1 (Nat.lt_asymm (by rw[q];exact hlt b hb))
  ·obtain⟨_,_,_,f3,_⟩:=hf b hb
   rcases f3 with z | z
   ·exact I.ok.noex b o e z
   ·exact absurd (Nat.lt_of_lt_of_le (Heap.lt_size e) (Nat.le_trans I.ok.bsz z)) (Nat.lt_irrefl _)
  ·obtain⟨_,f1,f2,_⟩:=hf b hb
   rcases List.mem_cons.mp (I.stkSub b hx) with z | z
   ·exact f1 z
   ·exact f2 z
 refine⟨ok,rfl,I.bare,Un.kept hk,⟨m,hn,fun i x v e1 e2 e3=>?_⟩,fun x c e=>?_,I.hok.fresh (Nat.le_refl _),fun x c e=>(bc.each x c e).elim (fun z=>I.freeC x c z) (fun z=>I.hok.fresh (Nat.le_of_lt z.1)),fun p hp=>?_,I.hok.kept hk,?_⟩
 ·have e2':(Tf js σ)[i]?=some (some v):=e2
  unfold Tf at e2'
  rw[List.getElem?_map] at e2'
  cases q:js[i]? with
  | none=>rw[q] at e2';cases e2'
  | some o=>
   rw[q] at e2'
   cases o with
   | none=>cases e2'
   | some j=>
    have e4:(σ[j]?).join=some v:=Option.some.inj e2'
    obtain⟨hN,hm⟩:=S.cap i x j e1 q
    have hσ:σ[j]?=some (some v):=by
     cases z:σ[j]? with
     | none=>rw[z] at e4;cases e4
     | some o=>rw[z] at e4;exact congrArg some e4
    obtain⟨m0,hn0,hl⟩:=I.loc
    obtain⟨c,hc,hc0⟩:=bc.free x hm
    have hv:Vis X.env.scope x:=(S.free x hm).elim (fun z=> .inr (.inl z)) fun z=> .inr (.inr z)
    obtain⟨u,r,l⟩:=hl j x v hN hσ hv
    refine⟨u,r,.inr ⟨?_,c,hc,?_⟩⟩
    ·exact S.seen x hm
    ·rcases l with⟨kl,_⟩ | ⟨_,c',hc',cell⟩
     ·rcases S.free x hm with y | y<;>(have z:=y.symm.trans (show X.env.scope.names.lookup x=some .local from kl);cases z)
     ·rw[hc0] at hc'
      cases hc'
      obtain⟨o,ho,hd⟩:=cell
      exact⟨o,hk _ _ ho,hd⟩
 ·rcases bc.each x c e with z | z
  ·obtain⟨v,o,ho,hd⟩:=I.cell x c z
   exact⟨v,o,hk _ _ ho,hd⟩
  ·exact⟨none,z.2⟩
 ·have hp':p∈X.pn++pins:=(List.mem_append.mp hp).elim (fun z=>z) fun z=>absurd z (by simp)
  obtain⟨e,n,ne,nf,d⟩:=I.pin p hp'
  refine⟨hk _ _ e,n,Nat.ne_of_lt (Heap.lt_size e),fun z=>?_,d⟩
  rcases List.mem_cons.mp (I.stkSub p.1 z) with y | y
  ·exact ne y
  ·exact nf y
 ·show(Tf js σ).length=N'.length
  unfold Tf
  rw[List.length_map];exact S.len
end
section
variable{X:Cx}{elt tg iter c:Expr}{scope:Scope}{pos:Pos}{N':List Str}{js:List (Option Nat)}{wi:TI}{g:TG}{te:TE}{tc:TT}
def Z72(js:List (Option Nat))(wi:TI)(g:TG)(te:TE):TE:=fun σ H Q=>wi σ H fun J H1=>∀D,H1 D=none→∃W:Nat→Nat→L2.St→Hp→Prop,(∃m,W 0 m (Tf js σ) (upd H1 D (.lst [])))∧
 ∀i m σc Hc,W i m σc Hc→(J.stop i Hc∧Q (.ref D) Hc)∨(J.go i Hc∧∀x H',J.yld i Hc x H'→g x σc H' fun σ2 H2=>te σ2 H2 fun y H4=>∃acc,H4 D=some (.lst acc)∧acc.length<sizeLine∧
  ∃m',m'<m∧W (i+1) m' σ2 (upd H4 D (.lst (acc++[y]))))
def Zk1(js:List (Option Nat))(wi:TI)(g:TG)(tc:TT)(te:TE):TE:=fun σ H Q=>wi σ H fun J H1=>∀D,H1 D=none→∃W:Nat→Nat→L2.St→Hp→Prop,(∃m,W 0 m (Tf js σ) (upd H1 D (.lst [])))∧
 ∀i m σc Hc,W i m σc Hc→(J.stop i Hc∧Q (.ref D) Hc)∨(J.go i Hc∧∀x H',J.yld i Hc x H'→g x σc H' fun σ2 H2=>tc σ2 H2 fun b H3=>if b=true then te σ2 H3 fun y H4=>∃acc,H4 D=some (.lst acc)∧acc.length<sizeLine∧
  ∃m',m'<m∧W (i+1) m' σ2 (upd H4 D (.lst (acc++[y]))) else ∃m',m'<m∧W (i+1) m' σ2 H3)
theorem Rp{pins:List (Addr×Obj)}{σ:L2.St}{H2:Hp}{s2:Shared}{cl:List (Str×Addr)}{it:Addr}{fp:List Addr}{tn:Nat→Heap→Prop}{J:It}{QD:Addr→Hp→Prop}{R:Value→Addr→Result→Shared→Prop}{E:Value→Shared→Prop}
  (hc:X.calm=true) (S:CompScope X.env.scope X.N N' js scope) (c1:∀x c,cl.lookup x=some c→X.env.cells.lookup x=some c) (c2:∀n,(n,NameKind.free)∈scope.names→∃c,cl.lookup n=some c)
  (hg:∀cl C fp pins s H,PG (cxC X N' scope cl C fp pins s H) tg g) (he:∀cl C fp pins s H,PE (cxC X N' scope cl C fp pins s H) elt te)
  (I2:Inv X pins σ H2 s2) (T:Turn X.prog X.w X.K tg J fp it tn) (st2:tn 0 s2.heap) (f2:∀b∈fp,FpOk X pins H2 b)
  (q:∀D,H2 D=none→∃W:Nat→Nat→L2.St→Hp→Prop,(∃m,W 0 m (Tf js σ) (upd H2 D (.lst [])))∧
   ∀i m σc Hc,W i m σc Hc→(J.stop i Hc∧QD D Hc)∨(J.go i Hc∧∀x H',J.yld i Hc x H'→g x σc H' fun σ2 H2=>te σ2 H2 fun y H4=>∃acc,H4 D=some (.lst acc)∧acc.length<sizeLine∧
    ∃m',m'<m∧W (i+1) m' σ2 (upd H4 D (.lst (acc++[y])))))
  (back:∀(D C:Addr) (Hc:Hp) (s4:Shared),(∃m,s4.heap.Ns C m)→Inv X pins σ Hc s4→Hc C=none→C≠X.env.locals→X.s₀.heap.objs.size≤C→(∀x c,X.env.cells.lookup x=some c→c≠C)→(∀p∈X.pn++pins,p.1≠C)→QD D Hc→R (.ref D) C (.ok .next) s4):
  wpAny (model X.prog X.w) X.A (newList []) (fun acc s3=>wpAny (model X.prog X.w) X.A (newFunctionEnv scope X.env.globals cl [] X.env.qual none .none (some X.env)) (fun cenv s4=>
   codeAny (model X.prog X.w) X.A (.compStart (.ListComp elt [⟨tg,iter,[],0⟩] scope pos) 0 (.ref it) acc {cenv with scope:=relabel scope X.env}) (R acc cenv.locals) s4) E s3) E s2:=by
 refine wpAny_newObj_type (Qy ?_)
 dsimp only
 have I3:Inv X pins σ (upd H2 s2.heap.objs.size (.lst [])) {s2 with heap:=s2.heap.push {cls:= .type "list",data:= .seq ([]:List Value).toArray}}:=I2.lnew (its:=[]) (t':=s2.toks) .nil (Nat.zero_le _)
 obtain⟨W,⟨m0,w0⟩,turn⟩:=q s2.heap.objs.size I2.fresh
 have hob:=T.obj 0 _ st2
 have f3:∀b∈fp,FpOk X pins (upd H2 s2.heap.objs.size (.lst [])) b:=fun b hb=>by
  obtain⟨o,e,_⟩:=hob b hb
  exact⟨by rw[Ze (Nat.ne_of_lt (Heap.lt_size e))];exact(f2 b hb).1,(f2 b hb).2⟩
 generalize hS3:(s2.heap.push {cls:= .type "list",data:= .seq ([]:List Value).toArray}:Heap)=h3 at *
 have k23:∀b o,s2.heap.get? b=some o→h3.get? b=some o:=fun b o e=>by rw[←hS3];exact Heap.get?_push_of_some _ e
 have hlt:∀b∈fp,b<h3.objs.size:=fun b hb=>by
  obtain⟨o,e,_⟩:=hob b hb
  exact Heap.lt_size (k23 b o e)
 have bc:=Qz S.nd I3 {cls:= .type "dict",data:= .dict #[]} c1 c2
 have hns:(pushCells (h3.push {cls:= .type "dict",data:= .dict #[]}) scope.names).Ns h3.objs.size (fun _=>none):=(Heap.Ns.new h3 (.type "dict")).keeps (pushCells_keeps _ _)
 have k31:∀b o,h3.get? b=some o→(pushCells (h3.push {cls:= .type "dict",data:= .dict #[]}) scope.names).get? b=some o:=fun b o e=>pushCells_keeps _ _ b o (Heap.get?_push_of_some _ e)
 dsimp only at bc
 generalize cellsFrom (h3.objs.size+1) scope.names cl=cl' at bc ⊢
 generalize pushCells (h3.push {cls:= .type "dict",data:= .dict #[]}) scope.names=h1 at bc hns k31 ⊢
 have I4:=Qd (tk:=s2.toks) S I3 bc f3 hlt hns k31
 have st4:tn 0 h1:=T.keep 0 _ h1 st2 fun b hb o e=>k31 b o (k23 b o e)
 have nofs:∀b∈fp,b∉(cxC X N' scope cl' h3.objs.size fp pins {s2 with heap:=h3} (upd H2 s2.heap.objs.size (.lst []))).fs:=I4.ok.exfs
 have stat:∀{H':Hp},(∀b∈fp,H' b=none)→∀b∈fp,FpOk (cxC X N' scope cl' h3.objs.size fp pins {s2 with heap:=h3} (upd H2 s2.heap.objs.size (.lst []))) [] H' b:=fun{H'} hn b hb=>
  ⟨hn b hb,Nat.ne_of_lt (hlt b hb),nofs b hb,.inl hb,fun x c e=>(bc.each x c e).elim (fun z=>(f3 b hb).2.2.2.2.1 x c z) (fun z q=>absurd z.1 (Nat.lt_asymm (by rw[q];exact hlt b hb))),fun p hp=>(f3 b hb).2.2.2.2.2 p (by simpa[cxC] using hp)⟩
 have loop:codeAny (model X.prog X.w) X.A (.compLoop (.ListComp elt [⟨tg,iter,[],0⟩] scope pos) 0 (.ref it) (.ref s2.heap.objs.size) (compEnvC scope cl' h3.objs.size X.env))
   (R (.ref s2.heap.objs.size) h3.objs.size) {s2 with heap:=h1,toks:=s2.toks}:=by
  refine Bi (fun n s'=>∃i σc Hc,Inv (cxC X N' scope cl' h3.objs.size fp pins {s2 with heap:=h3} (upd H2 s2.heap.objs.size (.lst []))) [] σc Hc s'∧tn i s'.heap∧(∀b∈fp,Hc b=none)∧W i n σc Hc) ?_ m0
   ⟨0,_,_,I4,st4,fun b hb=>(f3 b hb).1,w0⟩
  rintro n z ⟨i,σc,Hc,Iz,stz,frz,wz⟩
  rcases turn i n σc Hc wz with⟨stop,qd⟩ | ⟨go,step⟩
  ·refine thn (T.done (cxC X N' scope cl' h3.objs.size fp pins {s2 with heap:=h3} (upd H2 s2.heap.objs.size (.lst []))) rfl rfl rfl hc i [] z σc Hc noE Iz (stat frz) stz stop) fun r s4 zz44=>?_
   obtain⟨hr,I5⟩:=zz44
   subst hr
   have J5:Inv X pins σ Hc s4:=I3.call' (s':=s4) I5.os I5.base I5.hok I5.bare fun b hb=>⟨(f3 b hb).2.2.2.1,(f3 b hb).2.1,(f3 b hb).2.2.2.2.1,(f3 b hb).2.2.2.2.2⟩
   obtain⟨m,hm,_⟩:=I5.loc
   refine back _ _ Hc s4 ⟨m,hm⟩ J5 I5.free (Nat.ne_of_gt I3.lt) (Nat.le_trans I3.ok.above (Nat.le_of_lt I3.lt)) (fun x c e z=>?_) (fun p hp z=>?_) qd
   ·obtain⟨v,q⟩:=I3.cell x c e
    exact absurd q.lt (by rw[z];exact Nat.lt_irrefl _)
   ·exact absurd (Heap.lt_size (I3.pin p hp).1) (by rw[z];exact Nat.lt_irrefl _)
  ·refine thn (T.item (cxC X N' scope cl' h3.objs.size fp pins {s2 with heap:=h3} (upd H2 s2.heap.objs.size (.lst []))) rfl rfl rfl hc i [] z σc Hc noE Iz (stat frz) stz go) fun r s4 zz45=>?_
   obtain⟨u,hr,h4⟩:=zz45
   subst hr
   refine thn h4 fun _ s5 zz46=>?_
   obtain⟨x,H5,I5,r5,y5,st5,fr5⟩:=zz46
   have I5':=I5.pinned (stat fr5) (T.obj _ _ st5)
   refine thn (hg _ _ _ _ _ _ _ s5 σc H5 x u _ I5' r5 (step x H5 y5)) fun _ s6 zz47=>?_
   obtain⟨σ6,H6,I6,q6⟩:=zz47
   refine thn (he _ _ _ _ _ _ _ s6 σ6 H6 _ I6 q6) fun v s7 zz48=>?_
   obtain⟨y,H7,I7,r7,acc,hD,hlen,m',hm,w7⟩:=zz48
   refine thn (Rh _ s7 σ6 H7 (.ref s2.heap.objs.size) [y] (.ref s2.heap.objs.size) [v] (fun _ H8=>H8=upd H7 s2.heap.objs.size (.lst (acc++[y]))) I7 rfl (.cons r7 .nil) ⟨_,acc,y,rfl,rfl,hD,hlen,rfl⟩) fun _ s8 zz49=>?_
   obtain⟨_,H8,I8,_,e8⟩:=zz49
   subst e8
   refine⟨m',hm,i+1,σ6,_,I8.unpinned,T.keep _ _ _ st5 fun b hb o e=>(I8.pin (b,o) (List.mem_append_right _ (List.mem_append_right _ (X3 hb e)))).1,fun b hb=>?_,w7⟩
   obtain⟨o,e,d⟩:=T.obj _ _ st5 b hb
   exact(I8.pin (b,o) (List.mem_append_right _ (List.mem_append_right _ (X3 hb e)))).2.1
 exact codeAny_compStart_list loop (T.self _ 0 _ _ _ st4 loop)
theorem Zh0(hc:X.calm=true)(ho:Vr X.env.scope X.N N' js scope=true)(hi:PI X tg iter wi)(hg:∀cl C fp pins s H,PG (cxC X N' scope cl C fp pins s H) tg g)(he:∀cl C fp pins s H,PE (cxC X N' scope cl C fp pins s H) elt te)
  (hs:∀x,foldedSetIterable iter X.env x=pure x:=by intro _;rfl):PE X (.ListComp elt [⟨tg,iter,[],0⟩] scope pos) (Z72 js wi g te):=by
 intro pins s σ H Q I h
 have S:=CompScope.of ho
 obtain⟨cl,hcl,c1,c2⟩:=V4 (scope:=scope) (env:=X.env) fun n hn=>I.ok.has n (S.free n hn)
 rw[eval_ListComp]
 refine wpAny_comprehension_free (use:=none) rfl hs hcl S.kind S.loc (thn (hi pins s σ H _ I h) fun v s1 h1=>thn h1 fun itv s2 h2=>?_)
 obtain⟨it,fp,tn,J,H2,e,I2,T,st2,f2,q2⟩:=h2
 subst e
 refine Rp (QD:=fun D Hc=>Q (.ref D) Hc) (R:=fun acc C=>compPost (model X.prog X.w) X.A X.xe none (EP X pins σ Q) acc C) hc S c1 c2 hg he I2 T st2 f2 q2 ?_
 rintro D C Hc s4 ⟨m,hm⟩ J4 fC nL sC cC pC qd
 refine⟨m,hm,fun h' hs'=>⟨.ref D,Hc,?_,rfl,qd⟩⟩
 exact J4.turned (t':=s4.toks) (fun b o hb e=>(hs'.2 b hb).trans e) fC nL (.inr sC) cC pC
def Y41(i:Nat)(js:List (Option Nat))(wi:TI)(g:TG)(te:TE):TS:=fun D σ H=>Z72 js wi g te σ H fun v H1=>D.nx (σ.set i (some v)) H1
theorem Zg2{i:Nat}{x:Str}{px spos:Pos}(hc:X.calm=true)(ho:Vr X.env.scope X.N N' js scope=true)(hN:X.N.Nodup)(hx:X.N[i]?=some x)(hl:X.env.scope.names.lookup x=some .local)(hi:PI X tg iter wi)
  (hg:∀cl C fp pins s H,PG (cxC X N' scope cl C fp pins s H) tg g) (he:∀cl C fp pins s H,PE (cxC X N' scope cl C fp pins s H) elt te)
  (hsw:swapsWith (.ListComp elt [⟨tg,iter,[],0⟩] scope pos) (some (.Name x px)) spos.line X.env=pure true)
  (hs:∀x,foldedSetIterable iter X.env x=pure x:=by intro _;rfl):PS X (.Assign [.Name x px] (.ListComp elt [⟨tg,iter,[],0⟩] scope pos) spos) (Y41 i js wi g te):=by
 intro pins s σ H D I h
 have S:=CompScope.of ho
 obtain⟨cl,hcl,c1,c2⟩:=V4 (scope:=scope) (env:=X.env) fun n hn=>I.ok.has n (S.free n hn)
 rw[exec_Assign_Name_used _ _ _ _ hsw]
 refine wpAny_bind (wpAny_standAt (wpAny_bind ?_))
 show wpAny _ _ (do let _ ←comprehension (.ListComp elt [⟨tg,iter,[],0⟩] scope pos) scope X.env _ (newList []) false (eval iter X.env) (some (assign (.Name x px) X.env))) _ _ s
 refine wpAny_bind (wpAny_mono (wpAny_comprehension_free (use:=some (assign (.Name x px) X.env)) (Q:=fun _ s'=>SP X pins D .next s') rfl hs hcl S.kind S.loc (thn (hi pins s σ H _ I h) fun v s1 h1=>thn h1 fun itv s2 h2=>?_)) (fun _ s' hq=>wpAny_pure (wpAny_pure hq)) fun _ _ e=>e)
 obtain⟨it,fp,tn,J,H2,e,I2,T,st2,f2,q2⟩:=h2
 subst e
 refine Rp (QD:=fun E' Hc=>D.nx (σ.set i (some (.ref E'))) Hc) (R:=fun acc C=>compPost (model X.prog X.w) X.A X.xe (some (assign (.Name x px) X.env)) (fun _ s'=>SP X pins D .next s') acc C) hc S c1 c2 hg he I2 T st2 f2 q2 ?_
 rintro E' C Hc s4 ⟨m,hm⟩ J4 fC nL sC cC pC qd
 show wpAny _ _ (assign (.Name x px) X.env (.ref E')) _ _ s4
 refine wpAny_assign_Name (Rj J4 hN hx (.inl hl) (v:= .ref E') rfl (fun s5 J5 zz50=>?_) (.inr hl))
 obtain⟨a,sb,ha⟩:=zz50
 have hCa:C≠a:=by
  rcases ha with z | z
  ·rw[z];exact nL
  ·exact(cC x a z).symm
 refine⟨m,hm.sameBut sb hCa,fun h' hs'=>⟨σ.set i (some (.ref E')),Hc,?_,qd⟩⟩
 exact J5.turned (t':=s5.toks) (fun b o hb e=>(hs'.2 b hb).trans e) fC nL (.inr sC) cC pC
theorem Ru{pins:List (Addr×Obj)}{σ:L2.St}{H2:Hp}{s2:Shared}{cl:List (Str×Addr)}{it:Addr}{fp:List Addr}{tn:Nat→Heap→Prop}{J:It}{QD:Addr→Hp→Prop}{R:Value→Addr→Result→Shared→Prop}{E:Value→Shared→Prop}
  (hc:X.calm=true) (S:CompScope X.env.scope X.N N' js scope) (c1:∀x c,cl.lookup x=some c→X.env.cells.lookup x=some c) (c2:∀n,(n,NameKind.free)∈scope.names→∃c,cl.lookup n=some c)
  (hg:∀cl C fp pins s H,PG (cxC X N' scope cl C fp pins s H) tg g) (hq:∀cl C fp pins s H,PT (cxC X N' scope cl C fp pins s H) c tc) (he:∀cl C fp pins s H,PE (cxC X N' scope cl C fp pins s H) elt te)
  (I2:Inv X pins σ H2 s2) (T:Turn X.prog X.w X.K tg J fp it tn) (st2:tn 0 s2.heap) (f2:∀b∈fp,FpOk X pins H2 b)
  (q:∀D,H2 D=none→∃W:Nat→Nat→L2.St→Hp→Prop,(∃m,W 0 m (Tf js σ) (upd H2 D (.lst [])))∧
   ∀i m σc Hc,W i m σc Hc→(J.stop i Hc∧QD D Hc)∨(J.go i Hc∧∀x H',J.yld i Hc x H'→g x σc H' fun σ2 H2=>tc σ2 H2 fun b H3=>if b=true then te σ2 H3 fun y H4=>∃acc,H4 D=some (.lst acc)∧acc.length<sizeLine∧
    ∃m',m'<m∧W (i+1) m' σ2 (upd H4 D (.lst (acc++[y]))) else ∃m',m'<m∧W (i+1) m' σ2 H3))
  (back:∀(D C:Addr) (Hc:Hp) (s4:Shared),(∃m,s4.heap.Ns C m)→Inv X pins σ Hc s4→Hc C=none→C≠X.env.locals→X.s₀.heap.objs.size≤C→(∀x c,X.env.cells.lookup x=some c→c≠C)→(∀p∈X.pn++pins,p.1≠C)→QD D Hc→R (.ref D) C (.ok .next) s4):
  wpAny (model X.prog X.w) X.A (newList []) (fun acc s3=>wpAny (model X.prog X.w) X.A (newFunctionEnv scope X.env.globals cl [] X.env.qual none .none (some X.env)) (fun cenv s4=>
   codeAny (model X.prog X.w) X.A (.compStart (.ListComp elt [⟨tg,iter,[c],0⟩] scope pos) 0 (.ref it) acc {cenv with scope:=relabel scope X.env}) (R acc cenv.locals) s4) E s3) E s2:=by
 refine wpAny_newObj_type (Qy ?_)
 dsimp only
 have I3:Inv X pins σ (upd H2 s2.heap.objs.size (.lst [])) {s2 with heap:=s2.heap.push {cls:= .type "list",data:= .seq ([]:List Value).toArray}}:=I2.lnew (its:=[]) (t':=s2.toks) .nil (Nat.zero_le _)
 obtain⟨W,⟨m0,w0⟩,turn⟩:=q s2.heap.objs.size I2.fresh
 have hob:=T.obj 0 _ st2
 have f3:∀b∈fp,FpOk X pins (upd H2 s2.heap.objs.size (.lst [])) b:=fun b hb=>by
  obtain⟨o,e,_⟩:=hob b hb
  exact⟨by rw[Ze (Nat.ne_of_lt (Heap.lt_size e))];exact(f2 b hb).1,(f2 b hb).2⟩
 generalize hS3:(s2.heap.push {cls:= .type "list",data:= .seq ([]:List Value).toArray}:Heap)=h3 at *
 have k23:∀b o,s2.heap.get? b=some o→h3.get? b=some o:=fun b o e=>by rw[←hS3];exact Heap.get?_push_of_some _ e
 have hlt:∀b∈fp,b<h3.objs.size:=fun b hb=>by
  obtain⟨o,e,_⟩:=hob b hb
  exact Heap.lt_size (k23 b o e)
 have bc:=Qz S.nd I3 {cls:= .type "dict",data:= .dict #[]} c1 c2
 have hns:(pushCells (h3.push {cls:= .type "dict",data:= .dict #[]}) scope.names).Ns h3.objs.size (fun _=>none):=(Heap.Ns.new h3 (.type "dict")).keeps (pushCells_keeps _ _)
 have k31:∀b o,h3.get? b=some o→(pushCells (h3.push {cls:= .type "dict",data:= .dict #[]}) scope.names).get? b=some o:=fun b o e=>pushCells_keeps _ _ b o (Heap.get?_push_of_some _ e)
 dsimp only at bc
 generalize cellsFrom (h3.objs.size+1) scope.names cl=cl' at bc ⊢
 generalize pushCells (h3.push {cls:= .type "dict",data:= .dict #[]}) scope.names=h1 at bc hns k31 ⊢
 have I4:=Qd (tk:=s2.toks) S I3 bc f3 hlt hns k31
 have st4:tn 0 h1:=T.keep 0 _ h1 st2 fun b hb o e=>k31 b o (k23 b o e)
 have nofs:∀b∈fp,b∉(cxC X N' scope cl' h3.objs.size fp pins {s2 with heap:=h3} (upd H2 s2.heap.objs.size (.lst []))).fs:=I4.ok.exfs
 have stat:∀{H':Hp},(∀b∈fp,H' b=none)→∀b∈fp,FpOk (cxC X N' scope cl' h3.objs.size fp pins {s2 with heap:=h3} (upd H2 s2.heap.objs.size (.lst []))) [] H' b:=fun{H'} hn b hb=>
  ⟨hn b hb,Nat.ne_of_lt (hlt b hb),nofs b hb,.inl hb,fun x c e=>(bc.each x c e).elim (fun z=>(f3 b hb).2.2.2.2.1 x c z) (fun z q=>absurd z.1 (Nat.lt_asymm (by rw[q];exact hlt b hb))),fun p hp=>(f3 b hb).2.2.2.2.2 p (by simpa[cxC] using hp)⟩
 have loop:codeAny (model X.prog X.w) X.A (.compLoop (.ListComp elt [⟨tg,iter,[c],0⟩] scope pos) 0 (.ref it) (.ref s2.heap.objs.size) (compEnvC scope cl' h3.objs.size X.env))
   (R (.ref s2.heap.objs.size) h3.objs.size) {s2 with heap:=h1,toks:=s2.toks}:=by
  refine Bj (fun n s'=>∃i σc Hc,Inv (cxC X N' scope cl' h3.objs.size fp pins {s2 with heap:=h3} (upd H2 s2.heap.objs.size (.lst []))) [] σc Hc s'∧tn i s'.heap∧(∀b∈fp,Hc b=none)∧W i n σc Hc) ?_ m0
   ⟨0,_,_,I4,st4,fun b hb=>(f3 b hb).1,w0⟩
  rintro n z ⟨i,σc,Hc,Iz,stz,frz,wz⟩
  rcases turn i n σc Hc wz with⟨stop,qd⟩ | ⟨go,step⟩
  ·refine thn (T.done (cxC X N' scope cl' h3.objs.size fp pins {s2 with heap:=h3} (upd H2 s2.heap.objs.size (.lst []))) rfl rfl rfl hc i [] z σc Hc noE Iz (stat frz) stz stop) fun r s4 zz51=>?_
   obtain⟨hr,I5⟩:=zz51
   subst hr
   have J5:Inv X pins σ Hc s4:=I3.call' (s':=s4) I5.os I5.base I5.hok I5.bare fun b hb=>⟨(f3 b hb).2.2.2.1,(f3 b hb).2.1,(f3 b hb).2.2.2.2.1,(f3 b hb).2.2.2.2.2⟩
   obtain⟨m,hm,_⟩:=I5.loc
   refine back _ _ Hc s4 ⟨m,hm⟩ J5 I5.free (Nat.ne_of_gt I3.lt) (Nat.le_trans I3.ok.above (Nat.le_of_lt I3.lt)) (fun x c e z=>?_) (fun p hp z=>?_) qd
   ·obtain⟨v,q⟩:=I3.cell x c e
    exact absurd q.lt (by rw[z];exact Nat.lt_irrefl _)
   ·exact absurd (Heap.lt_size (I3.pin p hp).1) (by rw[z];exact Nat.lt_irrefl _)
  ·refine thn (T.item (cxC X N' scope cl' h3.objs.size fp pins {s2 with heap:=h3} (upd H2 s2.heap.objs.size (.lst []))) rfl rfl rfl hc i [] z σc Hc noE Iz (stat frz) stz go) fun r s4 zz52=>?_
   obtain⟨u,hr,h4⟩:=zz52
   subst hr
   refine thn h4 fun _ s5 zz53=>?_
   obtain⟨x,H5,I5,r5,y5,st5,fr5⟩:=zz53
   have I5':=I5.pinned (stat fr5) (T.obj _ _ st5)
   refine thn (hg _ _ _ _ _ _ _ s5 σc H5 x u _ I5' r5 (step x H5 y5)) fun _ s6 zz54=>?_
   obtain⟨σ6,H6,I6,q6⟩:=zz54
   refine thn (hq _ _ _ _ _ _ _ s6 σ6 H6 _ I6 q6) fun ok s6' zz55=>?_
   obtain⟨H6',I6',q6'⟩:=zz55
   cases ok with
   | false=>
    rw[if_neg Bool.false_ne_true] at q6' ⊢
    obtain⟨m',hm,w7⟩:=q6'
    refine⟨m',hm,i+1,σ6,_,I6'.unpinned,T.keep _ _ _ st5 fun b hb o e=>(I6'.pin (b,o) (List.mem_append_right _ (List.mem_append_right _ (X3 hb e)))).1,fun b hb=>?_,w7⟩
    obtain⟨o,e,d⟩:=T.obj _ _ st5 b hb
    exact(I6'.pin (b,o) (List.mem_append_right _ (List.mem_append_right _ (X3 hb e)))).2.1
   | true=>
   rw[if_pos rfl] at q6' ⊢
   refine thn (he _ _ _ _ _ _ _ s6' σ6 H6' _ I6' q6') fun v s7 zz56=>?_
   obtain⟨y,H7,I7,r7,acc,hD,hlen,m',hm,w7⟩:=zz56
   refine thn (Rh _ s7 σ6 H7 (.ref s2.heap.objs.size) [y] (.ref s2.heap.objs.size) [v] (fun _ H8=>H8=upd H7 s2.heap.objs.size (.lst (acc++[y]))) I7 rfl (.cons r7 .nil) ⟨_,acc,y,rfl,rfl,hD,hlen,rfl⟩) fun _ s8 zz57=>?_
   obtain⟨_,H8,I8,_,e8⟩:=zz57
   subst e8
   refine⟨m',hm,i+1,σ6,_,I8.unpinned,T.keep _ _ _ st5 fun b hb o e=>(I8.pin (b,o) (List.mem_append_right _ (List.mem_append_right _ (X3 hb e)))).1,fun b hb=>?_,w7⟩
   obtain⟨o,e,d⟩:=T.obj _ _ st5 b hb
   exact(I8.pin (b,o) (List.mem_append_right _ (List.mem_append_right _ (X3 hb e)))).2.1
 exact codeAny_compStart_list loop (T.self _ 0 _ _ _ st4 loop)
theorem Zb9(hc:X.calm=true)(ho:Vr X.env.scope X.N N' js scope=true)(hi:PI X tg iter wi)(hg:∀cl C fp pins s H,PG (cxC X N' scope cl C fp pins s H) tg g)(hq:∀cl C fp pins s H,PT (cxC X N' scope cl C fp pins s H) c tc)(he:∀cl C fp pins s H,PE (cxC X N' scope cl C fp pins s H) elt te)
  (hs:∀x,foldedSetIterable iter X.env x=pure x:=by intro _;rfl):PE X (.ListComp elt [⟨tg,iter,[c],0⟩] scope pos) (Zk1 js wi g tc te):=by
 intro pins s σ H Q I h
 have S:=CompScope.of ho
 obtain⟨cl,hcl,c1,c2⟩:=V4 (scope:=scope) (env:=X.env) fun n hn=>I.ok.has n (S.free n hn)
 rw[eval_ListComp]
 refine wpAny_comprehension_free (use:=none) rfl hs hcl S.kind S.loc (thn (hi pins s σ H _ I h) fun v s1 h1=>thn h1 fun itv s2 h2=>?_)
 obtain⟨it,fp,tn,J,H2,e,I2,T,st2,f2,q2⟩:=h2
 subst e
 refine Ru (QD:=fun D Hc=>Q (.ref D) Hc) (R:=fun acc C=>compPost (model X.prog X.w) X.A X.xe none (EP X pins σ Q) acc C) hc S c1 c2 hg hq he I2 T st2 f2 q2 ?_
 rintro D C Hc s4 ⟨m,hm⟩ J4 fC nL sC cC pC qd
 refine⟨m,hm,fun h' hs'=>⟨.ref D,Hc,?_,rfl,qd⟩⟩
 exact J4.turned (t':=s4.toks) (fun b o hb e=>(hs'.2 b hb).trans e) fC nL (.inr sC) cC pC
def Y09(i:Nat)(js:List (Option Nat))(wi:TI)(g:TG)(tc:TT)(te:TE):TS:=fun D σ H=>Zk1 js wi g tc te σ H fun v H1=>D.nx (σ.set i (some v)) H1
theorem Zc1{i:Nat}{x:Str}{px spos:Pos}(hc:X.calm=true)(ho:Vr X.env.scope X.N N' js scope=true)(hN:X.N.Nodup)(hx:X.N[i]?=some x)(hl:X.env.scope.names.lookup x=some .local)(hi:PI X tg iter wi)
  (hg:∀cl C fp pins s H,PG (cxC X N' scope cl C fp pins s H) tg g) (hq:∀cl C fp pins s H,PT (cxC X N' scope cl C fp pins s H) c tc) (he:∀cl C fp pins s H,PE (cxC X N' scope cl C fp pins s H) elt te)
  (hsw:swapsWith (.ListComp elt [⟨tg,iter,[c],0⟩] scope pos) (some (.Name x px)) spos.line X.env=pure true)
  (hs:∀x,foldedSetIterable iter X.env x=pure x:=by intro _;rfl):PS X (.Assign [.Name x px] (.ListComp elt [⟨tg,iter,[c],0⟩] scope pos) spos) (Y09 i js wi g tc te):=by
 intro pins s σ H D I h
 have S:=CompScope.of ho
 obtain⟨cl,hcl,c1,c2⟩:=V4 (scope:=scope) (env:=X.env) fun n hn=>I.ok.has n (S.free n hn)
 rw[exec_Assign_Name_used _ _ _ _ hsw]
 refine wpAny_bind (wpAny_standAt (wpAny_bind ?_))
 show wpAny _ _ (do let _ ←comprehension (.ListComp elt [⟨tg,iter,[c],0⟩] scope pos) scope X.env _ (newList []) false (eval iter X.env) (some (assign (.Name x px) X.env))) _ _ s
 refine wpAny_bind (wpAny_mono (wpAny_comprehension_free (use:=some (assign (.Name x px) X.env)) (Q:=fun _ s'=>SP X pins D .next s') rfl hs hcl S.kind S.loc (thn (hi pins s σ H _ I h) fun v s1 h1=>thn h1 fun itv s2 h2=>?_)) (fun _ s' hq=>wpAny_pure (wpAny_pure hq)) fun _ _ e=>e)
 obtain⟨it,fp,tn,J,H2,e,I2,T,st2,f2,q2⟩:=h2
 subst e
 refine Ru (QD:=fun E' Hc=>D.nx (σ.set i (some (.ref E'))) Hc) (R:=fun acc C=>compPost (model X.prog X.w) X.A X.xe (some (assign (.Name x px) X.env)) (fun _ s'=>SP X pins D .next s') acc C) hc S c1 c2 hg hq he I2 T st2 f2 q2 ?_
 rintro E' C Hc s4 ⟨m,hm⟩ J4 fC nL sC cC pC qd
 show wpAny _ _ (assign (.Name x px) X.env (.ref E')) _ _ s4
 refine wpAny_assign_Name (Rj J4 hN hx (.inl hl) (v:= .ref E') rfl (fun s5 J5 zz58=>?_) (.inr hl))
 obtain⟨a,sb,ha⟩:=zz58
 have hCa:C≠a:=by
  rcases ha with z | z
  ·rw[z];exact nL
  ·exact(cC x a z).symm
 refine⟨m,hm.sameBut sb hCa,fun h' hs'=>⟨σ.set i (some (.ref E')),Hc,?_,qd⟩⟩
 exact J5.turned (t':=s5.toks) (fun b o hb e=>(hs'.2 b hb).trans e) fC nL (.inr sC) cC pC
end
end L3
namespace L3
open PySem
def ExAt(h:Heap)(e:Addr)(cls:Value)(dd:Option Addr)(tb:Value):Prop:=∃oe vs,h.get? e=some oe∧(oe.cls=cls∧oe.dict=dd)∧oe.data= .fields vs∧vs[1]?=some tb
def TbAt(h:Heap)(T:Addr)(fl:Value):Prop:=∃oT ts,h.get? T=some oT∧oT.data= .fields ts∧ts[3]?=some fl
theorem ExAt.at{h h':Heap}{e:Addr}{cls:Value}{dd:Option Addr}{tb:Value}(x:ExAt h e cls dd tb)(k:∀o,h.get? e=some o→h'.get? e=some o):ExAt h' e cls dd tb:=
 let ⟨oe,vs,he,r⟩:=x;⟨oe,vs,k _ he,r⟩
theorem TbAt.at{h h':Heap}{T:Addr}{fl:Value}(x:TbAt h T fl)(k:∀o,h.get? T=some o→h'.get? T=some o):TbAt h' T fl:=
 let ⟨o,ts,he,r⟩:=x;⟨o,ts,k _ he,r⟩
theorem Q2(o:Obj)(f:Array Value→Array Value):(o.mapFields f).dict=o.dict:=by
 obtain⟨c,d,dt,sl⟩:=o;cases dt<;>rfl
structure Flown(fs xs:List Addr)(h h':Heap):Prop where
 keep:∀b o,h.get? b=some o→b∉fs→b∉xs→h'.get? b=some o
 slot:∀b o,h.get? b=some o→b∈fs→b∉xs→∃sl,h'.get? b=some {o with slots:=sl}
 there:∀b o,h.get? b=some o→∃o',h'.get? b=some o'
theorem Flown.trans{fs xs ys:List Addr}{h h1 h2:Heap}(a:Flown fs xs h h1)(b:Flown fs ys h1 h2)(hy:∀z∈ys,z∈xs∨h.get? z=none):Flown fs xs h h2 where
 keep:=fun c o e hf hx=>b.keep c o (a.keep c o e hf hx) hf fun z=>(hy c z).elim hx fun q=>by rw[q] at e;cases e
 slot:=fun c o e hf hx=>by
  obtain⟨sl,e1⟩:=a.slot c o e hf hx
  obtain⟨sl',e2⟩:=b.slot c _ e1 hf fun z=>(hy c z).elim hx fun q=>by rw[q] at e;cases e
  exact⟨sl',e2⟩
 there:=fun c o e=>by obtain⟨o1,e1⟩:=a.there c o e;exact b.there c o1 e1
section
variable{M:Model}{A:Around}{E:Value→Shared→Prop}{s:Shared}{base:Heap}{env:Env}{outer:List Env}{L e:Addr}{cls:Value}{dd:Option Addr}{tb:Value}
noncomputable abbrev frsE(l:List Env):List Addr:=l.filterMap (·.frame)
theorem Zn1(hl:s.heap.FunFrames base (env::outer))(hx:ExAt s.heap e cls dd tb):e∉frsE (env::outer):=fun hm=>by
 obtain⟨oe,vs,he,_,hd,_⟩:=hx
 obtain⟨_,o,ho,hnf⟩:=hl.mem hm
 rw[he] at ho;injection ho with ho;subst ho;exact hnf vs hd
theorem J1{head:Value}{hadNext:Bool}{Q:Unit→Shared→Prop}(hfr:A.frames=some (env::outer))(hl:s.heap.FunFrames base (env::outer))(hf:env.frame=some L)(hx:ExAt s.heap e cls dd tb)
  (h:∀h' T,s.heap.objs.size≤T→T≠e→ExAt h' e cls dd (.ref T)→TbAt h' T (rawInt L)→Flown (frsE (env::outer)) [e] s.heap h'→Q () {s with heap:=h'}):
  wpAny M A (do let a ←frameOf env;let pl ←entryPlaceOf L hadNext;let b ←EntryCells.newEntry head a .none (rawInt L) .none pl;setField (.ref e) 1 b) Q E s:=by
 have hene:=Zn1 hl hx
 obtain⟨oe,vs,he,⟨hc,hdd⟩,hd,h1⟩:=hx
 have hsz:1<vs.size:=(Array.getElem?_eq_some_iff.mp h1).1
 refine wpAny_bind (wpAny_frameOf_fun hfr hl hf fun h1 hs1=>?_)
 refine wpAny_bind (wpAny_entryPlaceOf fun pl hpl=>?_)
 unfold EntryCells.newEntry newFields
 refine wpAny_bind (wpAny_newObj_type ?_ (hpl.sizeOk5 _ _ _ _ _))
 generalize hob:({cls:= .type "traceback",dict:=none,data:= .fields ([head,.ref L,.none,rawInt L,.none]++(if pl.isEmpty then List.replicate 6 Value.none else pl)).toArray}:Obj)=ob
 have he1:h1.get? e=some oe:=(hs1.2.1 e hene).trans he
 have hne:ob.isFreed=false:=by rw[←hob];rfl
 refine wpAny_setField (Heap.get?_push_of_some ob he1) hd hsz (h _ h1.objs.size ?_ (Nat.ne_of_gt (Heap.lt_size he1)) ?_ ?_ ?_)
 ·exact Nat.le_of_eq hs1.1.symm
 ·have hd3:=Obj.data_mapFields hd (·.setIfInBounds 1 (Value.ref h1.objs.size))
  refine⟨_,_,Heap.get?_update_self _ (Heap.get?_push_of_some ob he1) (Obj.isFreed_of_fields hd3),⟨(Obj.cls_mapFields _ _).trans hc,(Q2 _ _).trans hdd⟩,hd3,by simp[hsz]⟩
 ·refine⟨ob,_,(Heap.get?_update_other _ _ (Nat.ne_of_lt (Heap.lt_size he1))).trans (Heap.get?_push_size h1 hne),by rw[←hob],?_⟩
  first | (simp;done) | (rcases hpl with rfl | ⟨_,_,_,_,_,_,_,rfl⟩<;>simp)
 ·have keep:∀b o,b≠e→h1.get? b=some o→((h1.push ob).update e (Obj.mapFields (·.setIfInBounds 1 (Value.ref h1.objs.size)))).get? b=some o:=fun b o hb q=>by
   rw[Heap.get?_update_other _ _ (Ne.symm hb)]
   exact Heap.get?_push_of_some _ q
  refine⟨fun b o q hb hx=>keep b o (by simpa using hx) ((hs1.2.1 b hb).trans q),fun b o q hb hx=>?_,fun b o q=>?_⟩
  ·obtain⟨sl,z⟩:=hs1.2.2 b o q
   exact⟨sl,keep b _ (by simpa using hx) z⟩
  ·obtain⟨sl,z⟩:=hs1.2.2 b o q
   by_cases hb:b=e
   ·subst hb
    exact⟨_,Heap.get?_update_self _ (Heap.get?_push_of_some ob he1) (Obj.isFreed_of_fields (Obj.data_mapFields hd _))⟩
   ·exact⟨_,keep b _ hb z⟩
theorem B9{Q:Unit→Shared→Prop}(hfr:A.frames=some (env::outer))(hl:s.heap.FunFrames base (env::outer))(hf:env.frame=some L)(hx:ExAt s.heap e cls dd .none)
  (h:∀h' T,s.heap.objs.size≤T→T≠e→ExAt h' e cls dd (.ref T)→TbAt h' T (rawInt L)→Flown (frsE (env::outer)) [e] s.heap h'→Q () {s with heap:=h'}):
  wpAny M A (noteFrame (.ref e) env) Q E s:=by
 obtain⟨oe,vs,he,hc,hd,h1⟩:=id hx
 unfold noteFrame
 simp only[hf]
 refine wpAny_bind (wpAny_field he hd h1 ?_)
 rw[if_neg (by decide)]
 exact J1 hfr hl hf hx h
theorem Nk{T0:Addr}{Q:Unit→Shared→Prop}(hfr:A.frames=some (env::outer))(hl:s.heap.FunFrames base (env::outer))(hf:env.frame=some L)(hx:ExAt s.heap e cls dd (.ref T0))(ht:TbAt s.heap T0 .none)(hne:T0≠e)
  (h:∀h' T,s.heap.objs.size≤T→T≠e→ExAt h' e cls dd (.ref T)→TbAt h' T (rawInt L)→Flown (frsE (env::outer)) [e,T0] s.heap h'→Q () {s with heap:=h'}):
  wpAny M A (noteFrame (.ref e) env) Q E s:=by
 obtain⟨oe,vs,he,hc,hd,h1⟩:=id hx
 obtain⟨oT,ts,hT,hdT,h3⟩:=id ht
 unfold noteFrame
 simp only[hf]
 refine wpAny_bind (wpAny_field he hd h1 ?_)
 rw[if_pos (show(Value.ref T0 !=Value.none)=true from by simp)]
 refine wpAny_bind (wpAny_field hT hdT h3 ?_)
 rw[if_neg (show ¬((Value.none==rawInt L)=true) from by simp[rawInt])]
 refine wpAny_bind (wpAny_setField hT hdT (Array.getElem?_eq_some_iff.mp h3).1 ?_)
 have other:∀b,b≠T0→(s.heap.update T0 (Obj.mapFields (·.setIfInBounds 3 Value.none))).get? b=s.heap.get? b:=fun b hb=>Heap.get?_update_other _ _ (Ne.symm hb)
 have selfT:(s.heap.update T0 (Obj.mapFields (·.setIfInBounds 3 Value.none))).get? T0=some (oT.mapFields (·.setIfInBounds 3 Value.none)):=Heap.get?_update_self _ hT (Obj.isFreed_of_fields (Obj.data_mapFields hdT _))
 have noRec:∀b o,s.heap.get? b=some o→(∀vs,o.data≠ .fields vs)→b≠T0:=fun b o hb hnf q=>by
  rw[q,hT] at hb;injection hb with hb;subst hb;exact hnf ts hdT
 have fl0:Flown (frsE (env::outer)) [e,T0] s.heap (s.heap.update T0 (Obj.mapFields (·.setIfInBounds 3 Value.none))):=by
  refine⟨fun b o q _ hx=>(other b (by simp at hx;exact hx.2)).trans q,fun b o q _ hx=>⟨o.slots,(other b (by simp at hx;exact hx.2)).trans q⟩,fun b o q=>?_⟩
  by_cases hb:b=T0
  ·subst hb;exact⟨_,selfT⟩
  ·exact⟨o,(other b hb).trans q⟩
 refine J1 (s:={s with heap:=s.heap.update T0 (Obj.mapFields (·.setIfInBounds 3 Value.none))}) hfr (hl.of_keeps fun b o hb hnf=>⟨o,(other b (noRec b o hb hnf)).trans hb,rfl⟩) hf
  (hx.at fun o q=>(other e (Ne.symm hne)).trans q) fun h' T z1 z2 z3 z4 z5=>h h' T ?_ z2 z3 z4 (fl0.trans z5 fun z hz=> .inl (by simp at hz;simp[hz]))
 exact Nat.le_trans (Nat.le_of_eq (Heap.size_update ..).symm) z1
theorem Tb{T0:Addr}{fl:Value}{fr:Option Addr}{Q:Unit→Shared→Prop}(hx:ExAt s.heap e cls dd (.ref T0))(ht:TbAt s.heap T0 fl)(hne:T0≠e)
  (h:∀h',ExAt h' e cls dd (.ref T0)→TbAt h' T0 (fr.elim Value.none fun f=>rawInt f)→(∀b o,b≠T0→s.heap.get? b=some o→h'.get? b=some o)→(∀b o,s.heap.get? b=some o→∃o',h'.get? b=some o')→Q () {s with heap:=h'}):
  wpAny M A (setFlight (.ref e) fr) Q E s:=by
 obtain⟨oe,vs,he,hc,hd,h1⟩:=id hx
 obtain⟨oT,ts,hT,hdT,h3⟩:=id ht
 have hsz3:3<ts.size:=(Array.getElem?_eq_some_iff.mp h3).1
 have other:∀b,b≠T0→(s.heap.update T0 (Obj.mapFields (·.setIfInBounds 3 (fr.elim Value.none fun f=>rawInt f)))).get? b=s.heap.get? b:=fun b hb=>Heap.get?_update_other _ _ (Ne.symm hb)
 have selfT:(s.heap.update T0 (Obj.mapFields (·.setIfInBounds 3 (fr.elim Value.none fun f=>rawInt f)))).get? T0=some (oT.mapFields (·.setIfInBounds 3 (fr.elim Value.none fun f=>rawInt f))):=Heap.get?_update_self _ hT (Obj.isFreed_of_fields (Obj.data_mapFields hdT _))
 unfold setFlight
 refine wpAny_bind (wpAny_field he hd h1 ?_)
 rw[if_pos (show(Value.ref T0 !=Value.none)=true from by simp)]
 refine wpAny_setField hT hdT hsz3 (h _ (hx.at fun o q=>(other e (Ne.symm hne)).trans q) ⟨_,_,selfT,Obj.data_mapFields hdT _,by simp[hsz3]⟩ (fun b o hb q=>(other b hb).trans q) fun b o q=>?_)
 by_cases hb:b=T0
 ·subst hb;exact⟨_,selfT⟩
 ·exact⟨o,(other b hb).trans q⟩
end
end L3
namespace L3
open PySem PySem.W
noncomputable abbrev N8(rest:List Value):Obj:={cls:= .type "tuple",data:= .seq rest.toArray}
noncomputable abbrev Q5(C t:Addr):Obj:={cls:= .ref C,data:= .fields #[.ref t,.none,.none,.none,.bool false,.none]}
section
variable{prog:Program}{w:World}{A:Around}{h:Heap}{g:Array GenState}{d:Drawn}{t:Nat}{os:OsState}
variable{nm q:Str}{C N f:Addr}{bs bm:List Value}{hdct:Bool}{sn:List Str}{sub:List Value}{ab:Bool}{col:Option Bool}{dd:Option Addr}{k0 k1 k2 k3 k5:Option Value}{Bn newId inN:String}{bmN:List Value}
structure ExcCls(h:Heap)(C:Addr)(nm q:Str)(N:Addr)(bs bm:List Value)(hdct:Bool)(sn:List Str)(sub:List Value)(ab:Bool)(col:Option Bool)(dd:Option Addr)(k0 k1 k2 k3 k5:Option Value)(Bn newId:String):Prop where
 obj:h.get? C=some (excClassObj nm q C N bs bm hdct sn sub ab col dd k0 k1 k2 k3 k5 newId)
 hB:(Value.ref C::bm).contains (.type Bn)=true
 hA:(Value.ref C::bm).contains (.type "AttributeError")=false
 hN:(Value.ref C::bm).contains (.type "NameError")=false
 hE:(Value.ref C::bm).contains (.type "BaseException")=true
theorem Z15{M:Model}{E:Value→Shared→Prop}(Fn:ExcBaseFacts Bn newId inN bmN)(x:ExcCls h C nm q N bs bm hdct sn sub ab col dd k0 k1 k2 k3 k5 Bn newId){rest:List Value}{Q:Unit→Shared→Prop}(hq:Q () ⟨h,g,d,t,os⟩):
  wpAny M A (checkBuiltinCall newId ⟨.ref C::rest,[]⟩) Q E ⟨h,g,d,t,os⟩:=by
 have hC:=x.obj
 have hB:=x.hB
 have hstar:=Fn.noStar
 simp only[checkBuiltinCall,Fn.newKind,Fn.newSplit,Fn.newRow]
 repeat (first
  | refine wpAny_loadPart_at hC ?_
  |(refine wpAny_isSubtype_exc hC ?_;rw[hB])
  | refine wpAny_staticBase_exc hC ?_
  | refine wpAny_madeBy_exc hC ?_
  | simp only[bne_self_eq_false,Bool.false_eq_true,if_false]
  | wp_step)
 exact hq
theorem Zs8{R:Result→Shared→Prop}(Fn:ExcBaseFacts Bn newId inN bmN)(x:ExcCls h C nm q N bs bm hdct sn sub ab col dd k0 k1 k2 k3 k5 Bn newId){rest:List Value}
  (hq:R (.ok (.ret (.ref (h.objs.size+1)))) ⟨(h.push (N8 rest)).push (Q5 C h.objs.size),g,d,t,os⟩) (hrest:rest.length≤sizeLine):
  codeAny (model prog w) A (.builtin newId ⟨.ref C::rest,[]⟩) R ⟨h,g,d,t,os⟩:=by
 have hends:=Fn.ends
 obtain⟨hC,hcB,hcA,hcN,_⟩:=x
 refine codeAny_builtinAt Fn.entry ?_
 unfold Builtin.«BaseException.__new__»
 refine wpAt_bind ?_
 show wpAt _ _ _ (stack >>=_) _ _ _
 refine wpAt_bind (wpAt_stack fun p below=>wpAt_of_wpAny ?_)
 wp_walk
 refine wpAt_of_wpAny ?_
 rw[Fn.owner]
 repeat (first
  | with_reducible refine wpAny_madeHere_exc Fn.canon hC ?_
  | with_reducible refine wpAny_loadPart_at hC ?_
  |(with_reducible refine wpAny_isSubtype_exc hC ?_;first | rw[hcB] | rw[hcA] | rw[hcN])
  | wp_step)
 show R _ _
 rw[Heap.size_push]
 exact hq
def Zl9(e:Addr)(R:Result→Shared→Prop)(r:Result)(s':Shared):Prop:=match r with
 | .ok (.ret v)=>v= .none∧R (.ok (.ret (.ref e))) s'
 | .ok _=>False
 | .error z=>R (.error z) s'
theorem Zh4{R:Result→Shared→Prop}(Fn:ExcBaseFacts Bn newId inN bmN)(x:ExcCls h C nm q N bs bm hdct sn sub ab col dd k0 k1 k2 k3 k5 Bn newId){rest:List Value}
  (hi:Looks (model prog w) h (typeLookup (.ref C) "__init__") (some (.ref f))) (hb:∀self,Looks (model prog w) h (bindSpecial (.ref f) self) (.ref f,[self]))
  (hq:codeAny (model prog w) (A.under (.builtin "type.__call__" ⟨.ref C::rest,[]⟩)) (.call (.ref f) ⟨.ref (h.objs.size+1)::rest,[]⟩) (Zl9 (h.objs.size+1) R) ⟨(h.push (N8 rest)).push (Q5 C h.objs.size),g,d,t,os⟩)
  (hrest:rest.length≤sizeLine):codeAny (model prog w) A (.call (.ref C) ⟨rest,[]⟩) R ⟨h,g,d,t,os⟩:=by
 have hC:=x.obj
 have f1:=tc_lookup
 have f2:=tc_bind (.ref C)
 have hT:(⟨h,g,d,t,os⟩:Shared).TypeIs (.ref C) "type":=⟨_,hC,rfl⟩
 refine codeAny_of_tree ?_
 show wpAny _ _ (callAny (.ref C) _) _ _ _
 repeat (any_goals (first | assumption | with_reducible refine wpAny_loadPart_at hC ?_ | wp_step))
 refine⟨rfl,?_⟩
 refine codeAny_call_builtin_at (Code.quiet_builtin _ (by decide+kernel)) entry_typeCall (wpAny_check_type_call_sub hC ?_)
 repeat (first | with_reducible refine wpAny_loadPart_at hC ?_ | with_reducible refine wpAny_madeBy_exc hC ?_ | wp_step)
 refine codeAny_call_builtin_code (Code.quiet_builtin _ Fn.quiet) (Z15 Fn x ?_)
 refine Zs8 Fn x ?_ hrest
 show wpAny _ _ _ _ _ _
 have k:∀b o,h.get? b=some o→((h.push (N8 rest)).push (Q5 C h.objs.size)).get? b=some o:=fun b o e=>Heap.get?_push_of_some _ (Heap.get?_push_of_some _ e)
 have hC1:=k _ _ hC
 have hget:((h.push (N8 rest)).push (Q5 C h.objs.size)).get? (h.objs.size+1)=some (Q5 C h.objs.size):=by heap_get
 have hcC:(Value.ref C::bm).contains (.ref C)=true:=by simp
 have i1:=hi.keeps k
 have b1:=(hb (.ref (h.objs.size+1))).keeps k
 have t1:Looks (model prog w) ((h.push (N8 rest)).push (Q5 C h.objs.size)) (typeOf (.ref (h.objs.size+1))) (.ref C):=(Looks.ld hget).andThen .now
 unfold isInstance
 repeat (first | with_reducible refine wpAny_loadPart_at hget ?_ | (with_reducible refine wpAny_isSubtype_exc hC1 ?_;rw[hcC]) | wp_step)
 show wpAny _ (A.under (.builtin "type.__call__" ⟨.ref C::rest,[]⟩)) (isSubtype (.ref C) (.ref C)) _ _ ⟨(h.push (N8 rest)).push (Q5 C h.objs.size),g,d,t,os⟩
 refine wpAny_isSubtype_exc hC1 ?_
 rw[hcC]
 unfold callSpecial? specialOf
 repeat (first | simp only[Bool.not_true,Bool.false_eq_true,if_false] | with_reducible refine wpAny_call ?_ | lk)
 refine codeAny_mono hq fun r s' z=>?_
 rcases r with e | (v | _ | _ | _)<;>first | exact z | exact z.elim | skip
 obtain⟨rfl,z⟩:=z
 exact wpAny_pure (wpAny_pure z)
end
end L3
namespace L3
open PySem PySem.W PySem.Calls PyProof.Rows Builtin Builtin.ObjectAttr
theorem Cw(self:Value):refuseLoop self "__setattr__" [.type "ValueError",.type "Exception",.type "BaseException",.type "object"]=pure ():=by
 kernel_rfl
structure ExcSet(K:Frag)(C:Addr)(name:Str):Prop where
 cls:∃cd own,clsIn K C=some cd∧cd.hasDict=true∧cd.mro=own++[.type "ValueError",.type "Exception",.type "BaseException",.type "object"]∧∀v∈own,∃a,v=Value.ref a
 no:findIn K (.ref C) name=some none
 set:findIn K (.ref C) "__setattr__"=some (some (.builtin "object.__setattr__"))
theorem Qo(self:Value):∀own:List Value,(∀v∈own,∃a,v=Value.ref a)→refuseLoop self "__setattr__" (own++[.type "ValueError",.type "Exception",.type "BaseException",.type "object"])=pure ()
 | [],_=>Cw self
 | v::r,h=>by
  obtain⟨a,rfl⟩:=h v List.mem_cons_self
  rw[List.cons_append,refuseLoop_ref]
  exact Qo self r fun u hu=>h u (List.mem_cons_of_mem _ hu)
section
variable{prog:Program}{w:World}{A:Around}{K:Frag}{C e:Addr}{s:Shared}{name:Str}{R:Result→Shared→Prop}
theorem Z17{tk:Tok}{v:Value}{oe:Obj}{vs:Array Value}(X:K.In s.heap)(S:ExcSet K C name)(he:s.heap.get? e=some oe)(hc:oe.cls= .ref C)(hdd:oe.dict=none)(hd:oe.data= .fields vs)
  (h:∀h' tk',h'.get? e=some {oe with dict:=some s.heap.objs.size}→h'.Ns1 s.heap.objs.size (fun x=>if x=name then some v else none)→(∀b o,b≠e→s.heap.get? b=some o→h'.get? b=some o)→R (.ok (.ret .none)) {s with heap:=h',toks:=tk'}):
  codeAny (model prog w) A (.call (.builtin "object.__setattr__") ⟨[.ref e,.str name tk,v],[]⟩) R s:=by
 obtain⟨⟨cd,own,hcd,hhd,hmro,hown⟩,hno,_⟩:=S
 have SF:=PySem.F.store_object
 have ty:Looks (model prog w) s.heap (typeOf (.ref e)) (.ref C):=by rw[←hc];exact(Looks.ld he).andThen .now
 have ne:cd.mro.isEmpty=false:=by rw[hmro];cases own<;>rfl
 have ho:cd.mro.contains (.type "object")=true:=by rw[hmro];simp
 have sub:Looks (model prog w) s.heap (isInstance (.ref e) (.type "object")) true:=ty.andThen (looks_mroIn X (by unfold mroIn;rw[hcd,Option.bind_some,if_neg (by rw[ne];decide),ho]))
 refine codeAny_call_builtin SF.slot.plain SF.entry (@check_slot (model prog w) _ _ s "object.__setattr__" "object" "__setattr__" (.ref e) [.str name tk,v] [] _ SF.kind SF.split sub (SF.args (.ref e) (.str name tk) v) ?_)
 have hm:Looks (model prog w) s.heap (mroOf (.ref C)) cd.mro:=(looks_clsIn X hcd).andThen .now
 rw[osa_eq,refuse_eq]
 refine wpAny_bind (wpAny_bind (ty.here (wpAny_bind (hm.here ?_))))
 rw[hmro,Qo _ own hown]
 refine wpAny_pure (wpAny_bind (ty.here (wpAny_bind ((looks_findIn X hno).here (wpAny_bind (wpAny_pure ?_))))))
 show wpAny _ _ (storeInOwnDict (.ref e) (.ref C) (.str name tk) name v false) _ _ _
 obtain⟨c,dct,dt,sl⟩:=oe
 dsimp only at hc hdd hd
 subst hc hdd hd
 refine wpAny_bind (wpAny_pure (wpAny_bind (wpAny_bind (wpAny_loadPart he (wpAny_bind ((looks_clsIn X hcd).here ?_))))))
 rw[hhd]
 show wpAny _ _ (alloc {cls:=Value.type "dict",data:=Data.dict #[]} >>=fun d=>update e (fun o=>{o with dict:=some d}) >>=fun _=>dictMade (.ref C) e d) _ _ s
 refine wpAny_bind (wpAny_alloc (wpAny_bind (wpAny_update (Heap.get?_push_of_some _ he) ?_)))
 refine wpAny_pure (a:=some s.heap.objs.size) ?_
 refine wpAny_bind (wpAny_pure (wpAny_bind ?_))
 have D:((s.heap.push {cls:=Value.type "dict",data:=Data.dict #[]}).update e fun o=>{o with dict:=some s.heap.objs.size}).get? s.heap.objs.size=some {cls:=Value.type "dict",data:=Data.dict #[]}:=
  (Heap.get?_update_other _ _ (Nat.ne_of_lt (Heap.lt_size he))).trans (Heap.get?_push_size _ rfl)
 have D2:∀f:Obj→Obj,(f {cls:=Value.type "dict",data:=Data.dict #[]}).isFreed=false→(((s.heap.push {cls:=Value.type "dict",data:=Data.dict #[]}).update e fun o=>{o with dict:=some s.heap.objs.size}).update s.heap.objs.size f).get? s.heap.objs.size=
   some (f {cls:=Value.type "dict",data:=Data.dict #[]}):=fun f hf=>Heap.get?_update_self f D hf
 unfold nsSet
 refine wpAny_bind (wpAny_bind (wpAny_askSetting (wpAny_pure (wpAny_bind (wpAny_mkText (wpAny_bind (wpAny_loadPart D ?_)))))))
 dsimp only
 rw[show aRefKeyMayBeTheName name #[]=false from rfl,if_neg Bool.false_ne_true]
 refine wpAny_updatePart D ?_
 refine wpAny_bind (wpAny_lookBehind (D2 _ rfl) ?_ ?_)
 ·exact pastItsLine_dict (by show 1≤_;decide)
 refine wpAny_pure ?_
 refine h _ _ ?_ ?_ ?_
 ·rw[Heap.get?_update_other _ _ (Nat.ne_of_gt (Heap.lt_size he))]
  exact Heap.get?_update_self _ (Heap.get?_push_of_some _ he) rfl
 ·refine⟨_,_,_,D2 _ rfl,rfl,?_,?_,?_⟩
  ·show StrKeys #[(⟨_,.str name _,v⟩:DictEntry)]
   intro x hx
   simp at hx
   subst hx
   exact⟨name,_,rfl⟩
  ·show UniqKeys #[(⟨_,.str name _,v⟩:DictEntry)]
   simp[UniqKeys]
  ·intro n
   show nsFind #[(⟨_,.str name _,v⟩:DictEntry)] n=_
   by_cases hn:n=name
   ·subst hn
    simp[nsFind,findBy,Value.isStr]
   ·have hb:(name==n)=false:=by simpa using Ne.symm hn
    simp[nsFind,findBy,Value.isStr,hb,hn]
 ·intro b o hb q
  rw[Heap.get?_update_other _ _ (Nat.ne_of_gt (Heap.lt_size q)),Heap.get?_update_other _ _ (Ne.symm hb)]
  exact Heap.get?_push_of_some _ q
theorem Jz{v:Value}{oe:Obj}{vs:Array Value}{E:Value→Shared→Prop}{Q:Unit→Shared→Prop}(X:K.In s.heap)(S:ExcSet K C name)(he:s.heap.get? e=some oe)(hc:oe.cls= .ref C)(hdd:oe.dict=none)(hd:oe.data= .fields vs)
  (h:∀h' tk',h'.get? e=some {oe with dict:=some s.heap.objs.size}→h'.Ns1 s.heap.objs.size (fun x=>if x=name then some v else none)→(∀b o,b≠e→s.heap.get? b=some o→h'.get? b=some o)→Q () {s with heap:=h',toks:=tk'}):
  wpAny (model prog w) A (setAttr (.ref e) name v) Q E s:=by
 have J:InstAt s.heap e oe C none:=⟨he,hc,by unfold notCls;rw[hd],by rw[hdd];trivial⟩
 exact set_plain X J S.set (Z17 (s:={s with toks:=s.toks+1}) X S he hc hdd hd fun h' tk' a b c=>h h' tk' a b c)
structure ExcGet(K:Frag)(C:Addr)(name:Str):Prop where
 cls:∃cd,clsIn K C=some cd∧cd.hasDict=true
 no:findIn K (.ref C) name=some none
 ga:findIn K (.ref C) "__getattribute__"=some (some (.builtin "BaseException.__getattribute__"))
 gh:findIn K (.ref C) "__getattr__"=some none
 base:mroIn K C (.type "BaseException")=some true
theorem Zs7(self:Value):bindSpecial (.builtin "BaseException.__getattribute__") self=pure (.builtin "BaseException.__getattribute__",[self]):=by kernel_rfl
theorem Zs2:builtinKind "BaseException.__getattribute__"=some .slot:=by decide+kernel
theorem Zc7:splitId "BaseException.__getattribute__"=some ("BaseException","__getattribute__"):=by decide+kernel
theorem Ze5:plainId "BaseException.__getattribute__"=true:=by decide+kernel
theorem Zl5(a b:Value):argsOk "BaseException.__getattribute__" ⟨[a,b],[]⟩:=by unfold argsOk;kernel_rfl
end
end L3
namespace L3
open PySem PySem.Spec PyProof.Rows L2
noncomputable def XO(e:Addr)(cls:Value)(dd:Option Addr):HO:= .ext fun h=>∃oe vs tb,h.get? e=some oe∧(oe.cls=cls∧oe.dict=dd)∧oe.data= .fields vs∧vs[1]?=some tb
theorem XO.ok{P:Program}{w:World}{H:Hp}{h:Heap}{e:Addr}{cls:Value}{dd:Option Addr}{tb:Value}(x:ExAt h e cls dd tb):Ys P w H h e (XO e cls dd):=by
 obtain⟨oe,vs,h1,h2,h3,h4⟩:=x
 exact⟨⟨oe,vs,tb,h1,h2,h3,h4⟩,⟨oe,h1⟩,fun a b zz59 k=>by obtain⟨oe,vs,tb,q1,q2⟩:=zz59;exact⟨oe,vs,tb,k _ q1,q2⟩⟩
theorem XO.at{P:Program}{w:World}{H:Hp}{h:Heap}{e:Addr}{cls:Value}{dd:Option Addr}(x:Ys P w H h e (XO e cls dd)):∃tb,ExAt h e cls dd tb:=by
 obtain⟨⟨oe,vs,tb,q1,q2,q3,q4⟩,_⟩:=x
 exact⟨tb,oe,vs,q1,q2,q3,q4⟩
noncomputable def CX1(P:Program)(w:World):CXT:=fun outer H s E e s'=>∃(ea T:Addr) (cls:Value) (dd:Option Addr) (H':Hp),e= .ref ea∧s'.os=s.os∧AllBare s'.gens∧Un (frs outer) [] H H' s.heap s'.heap∧HOk P w H' s'.heap∧
 (s.heap.objs.size≤ea∧s.heap.objs.size≤T)∧H' ea=some (XO ea cls dd)∧(H' T=none∧T≠ea)∧ExAt s'.heap ea cls dd (.ref T)∧TbAt s'.heap T .none∧E cls dd H'
structure Leaves(X:Cx)(E:XK):Prop where
 stk:X.stack=X.env::X.outer
 fr:X.env.frame=some X.env.locals
 ex:X.ex=[]
 xe:∀e s',wpAny (model X.prog X.w) X.A (leaving X.env e) (fun _ s''=>CX1 X.prog X.w X.outer X.H₀ X.s₀ E e s'') (fun e' s''=>CX1 X.prog X.w X.outer X.H₀ X.s₀ E e' s'') s'→X.xe e s'
theorem Jh{P:Program}{w:World}{K:PySem.W.Frag}{mg:Str→Option Value}{base:Heap}{N:List Str}{qual:Str}{scope:Scope}{f:Addr}{cd:Value}{A:Around}{outer:List Env}{s:Shared}{H:Hp}{E:XK}:
  Leaves (cxOf (CX1 P w) P w K mg base N qual scope f cd A outer s H E) E:=⟨rfl,rfl,rfl,fun _ _ h=>h⟩
theorem Y25{P:Program}{w:World}{H:Hp}{h:Heap}{a:Addr}{o:HO}(x:Ys P w H h a o):∃u,h.get? a=some u:=by
 cases o with
 | lst xs=>obtain⟨_,_,_,_,e⟩:=x;exact⟨_,e⟩
 | tup xs=>obtain⟨_,_,_,⟨_,e,_⟩⟩:=x;exact⟨_,e⟩
 | dK kvs=>obtain⟨_,_,_,_,o,_,_,e,_⟩:=x;exact⟨_,e⟩
 | dT kvs=>obtain⟨_,_,_,_,o,_,_,e,_⟩:=x;exact⟨_,e⟩
 | set S n=>obtain⟨o,_,_,_,e,_⟩:=x;exact⟨_,e⟩
 | ins C dx fs=>obtain⟨_,_,_,e,_⟩:=x;exact⟨_,e⟩
 | own y=>exact x
 | xd fs=>obtain⟨_,⟨_,_,_,e,_⟩,_⟩:=x;exact⟨_,e⟩
 | rng lo hi=>obtain⟨_,_,_,e⟩:=x;exact⟨_,e⟩
 | frz ob u=>obtain⟨e,_⟩:=x;exact⟨_,e⟩
 | tbl ps=>exact⟨_,x⟩
 | met f y=>exact⟨_,x⟩
 | ext φ=>exact x.2.1
section
variable{X:Cx}{E:XK}{pins:List (Addr×Obj)}{σ:L2.St}{H:Hp}{s:Shared}{e T:Addr}{cls:Value}{dd:Option Addr}{xs:List Addr}{h1:Heap}{fl:Value}
theorem Ny{P:Program}{w:World}{h h':Heap}{tb:Value}(ok:HOk P w H h)(he:H e=some (XO e cls dd))(x:ExAt h' e cls dd tb)(k:∀b u o,H b=some u→b≠e→h.get? b=some o→h'.get? b=some o):HOk P w H h':=fun b u q=>by
 by_cases hb:b=e
 ·subst hb
  rw[he] at q
  cases q
  exact XO.ok x
 ·refine(ok b u q).stay (fun c v hc r=>?_) (fun _ z=>z) fun _ _ z=>z
  rcases hc with z | z
  ·rw[z] at r ⊢;exact k b u v q hb r
  ·refine k c _ v z (fun y=>?_) r
   rw[y,he] at z
   cases z
theorem Qp{M:Model}{A:Around}{E':Value→Shared→Prop}(L:Leaves X E)(I:Inv X pins σ H s)(fresh:∀b∈xs,(H b=none∨b=e)∧X.s₀.heap.objs.size≤b)(he:e∈xs)(hx:H e=some (XO e cls dd))(hTs:s.heap.objs.size≤T)(hTe:T≠e)
  (x1:ExAt h1 e cls dd (.ref T)) (t1:TbAt h1 T fl) (fl1:Flown (frsE X.stack) xs s.heap h1) (hE:E cls dd H):
  wpAny M A (setFlight (.ref e) none) (fun _ s''=>CX1 X.prog X.w X.outer X.H₀ X.s₀ E (.ref e) s'') E' {s with heap:=h1}:=by
 have hT:s.heap.get? T=none:=Heap.get?_none_of_le hTs
 refine Tb (s:={s with heap:=h1}) x1 t1 hTe fun h2 x2 t2 k2 th2=>?_
 have neT:∀b o,s.heap.get? b=some o→b≠T:=fun b o q z=>by rw[z,hT] at q;cases q
 have nst:∀b o,X.s₀.heap.get? b=some o→b∉frs X.outer→b∉frsE X.stack:=fun b o q hb z=>by
  rw[L.stk] at z
  have z':b∈(X.env::X.outer).filterMap (·.frame):=z
  rw[List.filterMap_cons,L.fr] at z'
  rcases List.mem_cons.mp z' with y | y
  ·exact absurd (Heap.lt_size q) (by rw[y];exact Nat.not_lt.mpr I.ok.above)
  ·exact hb y
 have nxs:∀b o,X.s₀.heap.get? b=some o→b∉xs:=fun b o q z=>absurd (Heap.lt_size q) (Nat.not_lt.mpr (fresh b z).2)
 have nex:∀b:Addr,b∉X.ex:=fun b z=>by rw[L.ex] at z;cases z
 have T0:X.s₀.heap.objs.size≤T:=Nat.le_trans I.sz hTs
 refine⟨e,T,cls,dd,H,rfl,I.os,I.bare,⟨fun b o q n hb _=>?_,fun b o q n hb _=>?_,fun b o q n _=>I.base.free b o q n (nex b),fun b o q _=>?_,I.base.tups,I.base.frzs,I.base.tbls⟩,?_,⟨(fresh e he).2,T0⟩,hx,⟨?_,hTe⟩,x2,t2,hE⟩
 ·have q1:=I.base.keep b o q n hb (nex b)
  exact k2 b o (neT b o q1) (fl1.keep b o q1 (nst b o q hb) (nxs b o q))
 ·obtain⟨sl,q1⟩:=I.base.slot b o q n hb (nex b)
  have hst:b∈frsE X.stack:=by
   show b∈X.stack.filterMap (·.frame)
   rw[L.stk,List.filterMap_cons,L.fr]
   exact List.mem_cons_of_mem _ hb
  obtain⟨sl',q2⟩:=fl1.slot b _ q1 hst (nxs b o q)
  exact⟨sl',k2 b _ (neT b _ q1) q2⟩
 ·obtain⟨o1,q1⟩:=I.base.there b o q (nex b)
  obtain⟨o2,q2⟩:=fl1.there b o1 q1
  exact th2 b o2 q2
 ·refine Ny I.hok hx x2 fun b u o q hb r=>k2 b o (neT b o r) (fl1.keep b o r (fun z=>?_) fun z=>?_)
  ·have:=I.stkFree b z
   rw[q] at this;cases this
  ·rcases(fresh b z).1 with y | y
   ·rw[q] at y;cases y
   ·exact hb y
 ·cases q:H T with
  | none=>rfl
  | some u=>
   obtain⟨o,z⟩:=Y25 (I.hok T u q)
   rw[hT] at z;cases z
theorem Y52(L:Leaves X E):Nj (CX1 X.prog X.w) X E:=by
 rintro pins σ H s e s' I ⟨ea,T,cls,dd,H',eq,os,bare,un,hok,⟨f1,f2⟩,g1,⟨g2,g3⟩,x1,t1,hE⟩
 subst eq
 have J:Inv X pins σ H' s':=I.call' (ch:=[]) os un hok bare fun b z=>absurd z (by simp)
 have s0:∀b,s.heap.objs.size≤b→X.s₀.heap.objs.size≤b:=fun b hb=>Nat.le_trans I.sz hb
 refine L.xe _ _ ?_
 unfold leaving
 refine wpAny_bind (Nk (outer:=X.outer) (base:=X.base) (L:=X.env.locals) (by rw[←L.stk];exact J.ok.frames) (by rw[←L.stk];exact J.stack) L.fr x1 t1 g3 fun h1 T1 z1 z2 z3 z4 z5=>?_)
 refine Qp (xs:=[ea,T]) L J (fun b hb=>?_) (by simp) g1 z1 z2 z3 z4 (by rw[L.stk];exact z5) hE
 rcases List.mem_cons.mp hb with z | z
 ·rw[z];exact⟨.inr rfl,s0 _ f1⟩
 ·rw[List.mem_singleton.mp z];exact⟨.inl g2,s0 _ f2⟩
theorem Y35(L:Leaves X E)(I:Inv X pins σ H s)(hx:H e=some (XO e cls dd))(hn:ExAt s.heap e cls dd .none)(h0:X.s₀.heap.objs.size≤e)(hE:E cls dd H):X.xe (.ref e) s:=by
 refine L.xe _ _ ?_
 unfold leaving
 refine wpAny_bind (B9 (outer:=X.outer) (base:=X.base) (L:=X.env.locals) (by rw[←L.stk];exact I.ok.frames) (by rw[←L.stk];exact I.stack) L.fr hn fun h1 T1 z1 z2 z3 z4 z5=>?_)
 refine Qp (xs:=[e]) L I (fun b hb=>?_) (by simp) hx z1 z2 z3 z4 (by rw[L.stk];exact z5) hE
 rw[List.mem_singleton.mp hb];exact⟨.inr rfl,h0⟩
noncomputable def XN(e:Addr)(cls:Value)(dd:Option Addr):HO:= .ext fun h=>ExAt h e cls dd .none
theorem XN.ok{P:Program}{w:World}{H:Hp}{h:Heap}{e:Addr}{cls:Value}{dd:Option Addr}(x:ExAt h e cls dd .none):Ys P w H h e (XN e cls dd):=by
 refine⟨x,?_,fun a b y k=>y.at k⟩
 obtain⟨oe,_,h1,_⟩:=x
 exact⟨oe,h1⟩
theorem Zl4{C:Addr}{f:Str}{y:V}{u:Value}{Q:Unit→Shared→Prop}{E':Value→Shared→Prop}{A:Around}(I:Inv X pins σ H s)(he:H e=some (XN e (.ref C) none))(S:ExcSet X.K C f)(ry:RelV y u)
  (h:∀dx s',H dx=none→Inv X pins σ (upd (upd H dx (.xd [(f,y)])) e (XN e (.ref C) (some dx))) s'→Q () s'):wpAny (model X.prog X.w) A (setAttr (.ref e) f u) Q E' s:=by
 obtain⟨oe,vs,h1,⟨h2,h3⟩,h4,h5⟩:=(show ExAt s.heap e (.ref C) none .none from(I.hok e _ he).1)
 have nde:s.heap.objs.size≠e:=Nat.ne_of_gt (Heap.lt_size h1)
 have fr:H s.heap.objs.size=none:=I.hok.fresh (Nat.le_refl _)
 refine Jz I.kIn S h1 h2 h3 h4 fun h' tk' a1 a2 a3=>h s.heap.objs.size _ fr (I.un (t':=tk') ⟨fun b o q n _ _=>?_,fun b o q n _ _=>?_,fun b o q n _=>?_,fun b o q _=>?_,fun b xs q=>?_,fun b o u q=>?_,fun b ps q=>?_⟩ fun b w' q=>?_)
 ·exact a3 b o (fun z=>by rw[z,he] at n;cases n) q
 ·exact⟨o.slots,a3 b o (fun z=>by rw[z,he] at n;cases n) q⟩
 ·rw[Ze (fun z=>by rw[z,he] at n;cases n),Ze (Nat.ne_of_lt (Heap.lt_size q))];exact n
 ·by_cases hb:b=e
  ·exact⟨_,by rw[hb];exact a1⟩
  ·exact⟨o,a3 b o hb q⟩
 ·rw[Ze (fun z=>by rw[z,he] at q;cases q),Ze (fun z=>by rw[z,fr] at q;cases q)];exact q
 ·rw[Ze (fun z=>by rw[z,he] at q;cases q),Ze (fun z=>by rw[z,fr] at q;cases q)];exact q
 ·exact⟨#[],by rw[Ze (fun z=>by rw[z,he] at q;cases q),Ze (fun z=>by rw[z,fr] at q;cases q),q];simp⟩
 ·by_cases hb:b=e
  ·subst hb
   rw[Zz] at q
   cases q
   exact XN.ok ⟨_,vs,a1,⟨h2,rfl⟩,h4,h5⟩
  ·rw[Ze hb] at q
   by_cases hd:b=s.heap.objs.size
   ·subst hd
    rw[Zz] at q
    cases q
    refine⟨_,a2,fun g=>?_⟩
    by_cases hg:g=f
    ·subst hg
     simp only[List.lookup_cons,beq_self_eq_true,if_true]
     exact ry
    ·have hb:(g==f)=false:=by simpa using hg
     simp only[List.lookup_cons,hb,List.lookup_nil,if_neg hg]
     trivial
   ·rw[Ze hd] at q
    refine(I.hok b w' q).stay (fun c v hc r=>a3 c v ?_ r) (fun c z=>?_) fun c xs z=>?_
    ·intro z
     rcases hc with y | y
     ·exact hb (y.symm.trans z)
     ·rw[z,he] at y;cases y
    ·rw[Ze (fun y=>by rw[y,he] at z;cases z),Ze (fun y=>by rw[y,fr] at z;cases z)];exact z
    ·rw[Ze (fun y=>by rw[y,he] at z;cases z),Ze (fun y=>by rw[y,fr] at z;cases z)];exact z
end
section
variable{X:Cx}{pos pos':Pos}{o value:Expr}{f:Str}{ta tv:TE}
def sExc(K:PySem.W.Frag)(ta tv:TE)(f:Str):TS:=fun D σ H=>tv σ H fun y H1=>ta σ H1 fun x H2=>∃e C,x= .ref e∧H2 e=some (XN e (.ref C) none)∧ExcSet K C f∧∀dx,H2 dx=none→D.nx σ (upd (upd H2 dx (.xd [(f,y)])) e (XN e (.ref C) (some dx)))
theorem Zx5(ha:PE X o ta)(hv:PE X value tv)(hs:swapsWith value (some (.Attribute o f pos')) pos.line X.env=pure false):PS X (.Assign [.Attribute o f pos'] value pos) (sExc X.K ta tv f):=by
 intro pins s σ H D I h
 refine plainObj_wpAny_Assign_Attribute (thn (hv pins s σ H _ I h) fun u s1 ⟨y,H1,I1,ry,q⟩=>thn (ha pins s1 σ H1 _ I1 q) fun ov s2 zz61=>?_) hs
 obtain⟨x,H2,I2,rx,e,C,ex,ee,S,q2⟩:=zz61
 subst ex
 obtain rfl:ov=Value.ref e:=rx
 exact Zl4 I2 ee S ry fun dx s3 hd I3=>⟨σ,_,I3,q2 dx hd⟩
end
structure ExcMk(K:PySem.W.Frag)(C f:Addr):Prop where
 cls:∃nm q N bs bm hdct sn sub ab col dd k0 k1 k2 k3 k5,K.lookup C=some (excClassObj nm q C N bs bm hdct sn sub ab col dd k0 k1 k2 k3 k5 "ValueError.__new__")∧(Value.ref C::bm).contains (.type "ValueError")=true∧
  (Value.ref C::bm).contains (.type "AttributeError")=false∧(Value.ref C::bm).contains (.type "NameError")=false∧(Value.ref C::bm).contains (.type "BaseException")=true
 init:PySem.W.findIn K (.ref C) "__init__"=some (some (.ref f))
 fn:PySem.W.isFn K (.ref f)=true
 kp:PySem.W.keepIn K (.ref C)=true
theorem ExcMk.at{K:PySem.W.Frag}{C f:Addr}(M:ExcMk K C f){h:Heap}(k:K.In h):∃nm q N bs bm hdct sn sub ab col dd k0 k1 k2 k3 k5,ExcCls h C nm q N bs bm hdct sn sub ab col dd k0 k1 k2 k3 k5 "ValueError" "ValueError.__new__":=by
 obtain⟨nm,q,N,bs,bm,hdct,sn,sub,ab,col,dd,k0,k1,k2,k3,k5,h1,h2,h3,h4,h5⟩:=M.cls
 exact⟨nm,q,N,bs,bm,hdct,sn,sub,ab,col,dd,k0,k1,k2,k3,k5,k _ _ h1,h2,h3,h4,h5⟩
section
variable{X:Cx}{k:Nat}{f C:Addr}{fd:FuncData}{ps:List Str}{sp:Sp}{dvs:List V}{ds:List Value}{pins:List (Addr×Obj)}{σ:L2.St}{H:Hp}{s:Shared}{us:List Value}{vs:List V}
theorem Zf3{Q:Addr→Hp→Prop}{E':Value→Shared→Prop}(M:ExcMk X.K C f)(F:FnOk X.prog X.w X.K X.mg X.base CX0 k f fd ps sp)(hr:Room (k+1) X.A)(hb:Zr X.K fd ps ds)(hd:Vals dvs ds)(I:Inv X pins σ H s)(r:Vals vs us)(hz:us.length≤sizeLine)
  (h:∀e,H e=none→sp (.ref e::(vs++dvs)) (upd H e (XN e (.ref C) none)) (fun v H2=>v= .non∧Q e H2) E0):
  wpAny (model X.prog X.w) X.A (call (.ref C) us) (fun u s'=>∃e H',u= .ref e∧Inv X pins σ H' s'∧X.s₀.heap.objs.size≤e∧X.K.In s'.heap∧Q e H') E' s:=by
 obtain⟨nm,q,N,bs,bm,hdct,sn,sub,ab,col,dd,k0,k1,k2,k3,k5,cl⟩:=M.at I.kIn
 have fr:H (s.heap.objs.size+1)=none:=I.hok.fresh (Nat.le_succ _)
 have hq:=h (s.heap.objs.size+1) fr
 have hget:((s.heap.push (N8 us)).push (Q5 C s.heap.objs.size)).get? (s.heap.objs.size+1)=some (Q5 C s.heap.objs.size):=by heap_get
 have I2:Inv X pins σ (upd H (s.heap.objs.size+1) (XN (s.heap.objs.size+1) (.ref C) none)) {s with heap:=(s.heap.push (N8 us)).push (Q5 C s.heap.objs.size)}:=
  I.laid (a:=s.heap.objs.size+1) (t':=s.toks) (fun b u e=>Heap.get?_push_of_some _ (Heap.get?_push_of_some _ e)) (Nat.le_succ _) (XN.ok ⟨_,_,hget,⟨rfl,rfl⟩,rfl,rfl⟩)
 have r2:Vals (V.ref (s.heap.objs.size+1)::(vs++dvs)) (Value.ref (s.heap.objs.size+1)::(us++ds)):= .cons rfl (r.append hd)
 have hl:(Value.ref (s.heap.objs.size+1)::us++ds).length=ps.length:=by
  have e:=r2.length
  rw[F.len _ _ _ _ hq] at e
  exact e.symm
 have s0:X.s₀.heap.objs.size≤s.heap.objs.size+1:=Nat.le_trans I.sz (Nat.le_succ _)
 refine wpAny_call ?_
 have hi:=PySem.W.looks_findIn (M:=model X.prog X.w) I.kIn M.init
 have hbd:=fun self=>PySem.W.bind_fn (M:=model X.prog X.w) I.kIn self (beq_iff_eq.mp M.fn)
 obtain⟨hh,g,d,t,os⟩:=s
 refine Zh4 PySem.F.excBase_ValueError cl hi hbd (codeAny_mono (F.run _ X.stack _ _ ⟨Value.ref (hh.objs.size+1)::us,[]⟩ (Value.ref (hh.objs.size+1)::(us++ds)) _ _ E0 (hr.make C us []) (I2.env0.make C us []) (hb _ (Value.ref (hh.objs.size+1)::us) I2.kIn hl) r2 hq) fun rr s' hq'=>?_) hz
 cases rr with
 | error e=>exact False.elim hq'
 | ok fl=>
  cases fl with
  | ret u=>
   obtain⟨v,H',I3,rv,ev,q3⟩:=I2.after hq'
   subst ev
   exact⟨rv,hh.objs.size+1,H',rfl,I3,s0,I3.kIn,q3⟩
  | next=>exact False.elim hq'
  | brk=>exact False.elim hq'
  | cont=>exact False.elim hq'
theorem Qk{M:Model}{A:Around}{E:Value→Shared→Prop}{env:Env}{s:Shared}{x:Sem Value}{Q:Flow→Shared→Prop}(hh:A.handled=none)
  (h:wpAny M A x (fun v s1=>∃(e:Addr) (nm q:Str) (N:Addr) (bs bm:List Value) (hdct:Bool) (sn:List Str) (sub:List Value) (ab:Bool) (col:Option Bool) (dd:Option Addr) (k0 k1 k2 k3 k5:Option Value) (dx:Option Addr),
   v= .ref e∧ExcCls s1.heap C nm q N bs bm hdct sn sub ab col dd k0 k1 k2 k3 k5 "ValueError" "ValueError.__new__"∧ExAt s1.heap e (.ref C) dx .none∧E (.ref e) s1) E s):
  wpAny M A (raiseStmt env (some x) none) Q E s:=by
 unfold raiseStmt
 refine wpAny_bind (wpAny_mono h (fun v s1 h1=>?_) fun _ _ z=>z)
 obtain⟨e,nm,q,N,bs,bm,hdct,sn,sub,ab,col,dd,k0,k1,k2,k3,k5,dx,rfl,cl,⟨oe,vs,he,⟨hc,hdd⟩,hd,h1⟩,hE⟩:=h1
 obtain⟨hC,_,_,_,hcB⟩:=cl
 obtain⟨hp,g,d,tk,os⟩:=s1
 obtain⟨c,dc,dt,sl⟩:=oe
 dsimp only at hc hdd hd
 subst hc hdd hd
 repeat (first | with_reducible refine wpAny_loadPart_at he ?_ | with_reducible refine wpAny_loadPart_at hC ?_ | (with_reducible refine wpAny_isSubtype_exc hC ?_;rw[hcB]) | wp_step)
 rw[h1]
 refine wpAny_pure ?_
 rw[if_neg (by decide)]
 exact wpAny_pure (wpAny_raiseNew_none hh hE)
def Zj5(C:Addr)(sp:Sp)(dvs:List V)(E:XK)(t:TA):TS:=fun _ σ H=>t σ H fun vs H1=>vs.length≤8∧∀e,H1 e=none→sp (.ref e::(vs++dvs)) (upd H1 e (XN e (.ref C) none)) (fun v H2=>v= .non∧∃dd,H2 e=some (XN e (.ref C) dd)∧E (.ref C) dd (upd H2 e (XO e (.ref C) dd))) E0
theorem E5{E:XK}{vs:List V}(L:Leaves X E)(M:ExcMk X.K C f)(F:FnOk X.prog X.w X.K X.mg X.base CX0 k f fd ps sp)(hr:Room (k+1) X.A)(hb:Zr X.K fd ps ds)(hd:Vals dvs ds)(I:Inv X pins σ H s)(r:Vals vs us)(hz:vs.length≤8)
  (h:∀e,H e=none→sp (.ref e::(vs++dvs)) (upd H e (XN e (.ref C) none)) (fun v H2=>v= .non∧∃dd,H2 e=some (XN e (.ref C) dd)∧E (.ref C) dd (upd H2 e (XO e (.ref C) dd))) E0):
  wpAny (model X.prog X.w) X.A (call (.ref C) us) (fun v s1=>∃(e:Addr) (nm q:Str) (N:Addr) (bs bm:List Value) (hdct:Bool) (sn:List Str) (sub:List Value) (ab:Bool) (col:Option Bool) (dd:Option Addr) (k0 k1 k2 k3 k5:Option Value) (dx:Option Addr),
   v= .ref e∧ExcCls s1.heap C nm q N bs bm hdct sn sub ab col dd k0 k1 k2 k3 k5 "ValueError" "ValueError.__new__"∧ExAt s1.heap e (.ref C) dx .none∧X.xe (.ref e) s1) X.xe s:=by
 refine thn (Zf3 (Q:=fun e H2=>∃dd,H2 e=some (XN e (.ref C) dd)∧E (.ref C) dd (upd H2 e (XO e (.ref C) dd))) M F hr hb hd I r (by rw[←r.length];exact Nat.le_trans hz (by decide)) h) fun v s1 zz62=>?_
 obtain⟨e,H',ev,I',s0,kin,dd',he,hE⟩:=zz62
 obtain⟨nm,q,N,bs,bm,hdct,sn,sub,ab,col,dd,k0,k1,k2,k3,k5,cl⟩:=M.at kin
 have x:ExAt s1.heap e (.ref C) dd' .none:=(I'.hok e _ he).1
 have I2:Inv X pins σ (upd H' e (XO e (.ref C) dd')) {s1 with heap:=s1.heap,toks:=s1.toks}:=
  I'.write (x:=e) (e:=e) (by rw[he];exact True.intro) (.inl rfl) (fun _ _ _ z=>z) (by obtain⟨oe,_,z,_⟩:=x;exact⟨oe,z⟩) (XO.ok x)
 exact⟨e,nm,q,N,bs,bm,hdct,sn,sub,ab,col,dd,k0,k1,k2,k3,k5,dd',ev,cl,x,Y35 L I2 Zz x s0 hE⟩
theorem Z02{E:XK}{x:Str}{np cpos pos:Pos}(L:Leaves X E)(hc:X.calm=true)(M:ExcMk X.K C f)(F:FnOk X.prog X.w X.K X.mg X.base CX0 k f fd ps sp)(hr:Room (k+1) X.A)(hb:Zr X.K fd ps ds)(hd:Vals dvs ds)(hg:Gl X x)(hm:X.mg x=some (.ref C))
  (hdb:(x==("__debug__":Str))=false:=by decide):PS X (.Raise (some (.Call (.Name x np) [] [] cpos)) none pos) (Zj5 C sp dvs E tNil):=by
 intro pins s σ H D I h
 obtain⟨hz,h⟩:=h
 rw[arm_exec_Raise]
 simp only[evalOpt,Option.map]
 refine wpAny_bind (wpAny_standAt (Qk (C:=C) (I.ok.hd hc) ?_))
 refine wpAny_bind (wpAny_mono (Q:=fun v s1=>∃(e:Addr) (nm q:Str) (N:Addr) (bs bm:List Value) (hdct:Bool) (sn:List Str) (sub:List Value) (ab:Bool) (col:Option Bool) (dd:Option Addr) (k0 k1 k2 k3 k5:Option Value) (dx:Option Addr),
   v= .ref e∧ExcCls s1.heap C nm q N bs bm hdct sn sub ab col dd k0 k1 k2 k3 k5 "ValueError" "ValueError.__new__"∧ExAt s1.heap e (.ref C) dx .none∧X.xe (.ref e) s1) ?_ (fun v s1 z=>wpAny_bind (wpAny_standAt (wpAny_pure z))) fun _ _ z=>z)
 refine wpAny_Call_Name_kw (Wh I hg hm ?_ hdb)
 exact PySem.W.callWith_K0 I.kIn M.kp (E5 (us:=[]) L M F hr hb hd I .nil hz h)
end
end L3
namespace L3
open PySem PySem.W PySem.Calls PyProof.Rows Builtin Builtin.ObjectAttr
section
variable{prog:Program}{w:World}{A:Around}{E:Value→Shared→Prop}{K:Frag}{C D e:Addr}{s:Shared}
structure ExcIs(K:Frag)(C:Addr):Prop where
 cls:∃cd,clsIn K C=some cd∧cd.hasDict=true
 ga:findIn K (.ref C) "__getattribute__"=some (some (.builtin "BaseException.__getattribute__"))
 gh:findIn K (.ref C) "__getattr__"=some none
 base:mroIn K C (.type "BaseException")=some true
 own:findIn K (.ref C) "__class__"=some (some (.builtin "object.__class__"))
 ds:specialIn K (.builtin "object.__class__") "__get__"=some (some (.builtin "getset_descriptor.__get__"))
 tk:takesIn K (.builtin "object.__class__")=some true
 obj:mroIn K C (.type "object")=some true
theorem Z94{oe:Obj}{od:Obj}{Q:Option Value→Shared→Prop}(X:K.In s.heap)(S:ExcIs K C)(J:InstAt s.heap e oe C (some od))(h:Q (some (.ref C)) {s with toks:=s.toks+1}):
  wpAny (model prog w) A (getAttr? (.ref e) "__class__") Q E s:=by
 obtain⟨⟨cd,hcd,hdict⟩,hga,hgh,hbase,hown,hds,htk,hobj⟩:=S
 obtain⟨hp,g,d,t,os⟩:=s
 have hf:findObj K C (some od) "__class__"=some (.bind (.builtin "getset_descriptor.__get__") (.builtin "object.__class__")):=findObj_data (by rw[hcd];rfl) hown hds htk
 have L0:=J.type (M:=model prog w)
 have L1:=looks_findIn (M:=model prog w) X hga
 have L2:=looks_findIn (M:=model prog w) X hgh
 have L3':=looks_find (M:=model prog w) X J hf
 have sub:Looks (model prog w) hp (isInstance (.ref e) (.type "BaseException")) true:=L0.andThen (looks_mroIn X hbase)
 unfold getAttr? getAttrBy? getAttrBy
 refine wpAny_bind (wpAny_mkText (wpAny_bind (wpAny_attempt (wpAny_holding (wpAny_bind (L0.at (wpAny_bind (L1.at ?_))))))))
 show wpAny _ _ (getAttrByItsOwn _ _ _ _ _ _) _ _ _
 unfold getAttrByItsOwn
 refine wpAny_bind (L2.at (wpAny_bind (wpAny_attempt (wpAny_holding ?_))))
 unfold callGetattribute
 rw[if_neg (by decide)]
 unfold boundAndCalled
 rw[Zs7]
 refine wpAny_bind (wpAny_pure (wpAny_call ?_))
 refine codeAny_call_builtin Ze5 F.entry_bexc_ga (@check_slot (model prog w) _ _ _ "BaseException.__getattribute__" "BaseException" "__getattribute__" (.ref e) [.str "__class__" t] [] _ Zs2 Zc7 sub (Zl5 (.ref e) (.str "__class__" t)) ?_)
 show wpAny _ _ (typeOf (.ref e) >>=fun tp=>find (.ref e) tp "__class__" >>=_) _ _ _
 refine wpAny_bind (L0.at (wpAny_bind (L3'.at ?_)))
 have hcall:=class_get (prog:=prog) (w:=w) (A:=A.in1) (s:=⟨hp,g,d,t+1,os⟩) (tp:= .ref C) (R:=fun r s'=>r= .ok (.ret (.ref C))∧s'=⟨hp,g,d,t+1,os⟩) X J hobj ⟨rfl,rfl⟩
 unfold bindTo
 refine wpAny_bind (wpAny_holding (wpAny_call (codeAny_mono hcall fun r s' z=>?_)))
 obtain⟨rfl,rfl⟩:=z
 refine wpAny_pure ?_
 show wpAny _ _ (handedOut (.ref C)) _ _ _
 exact handed_on rfl (wpAny_pure h)
end
end L3
namespace L3
open PySem PySem.Spec PyProof.Rows L2
section
variable{K:PySem.W.Frag}{C e:Addr}
theorem Ep{oe od:Obj}(S:ExcIs K C):PySem.W.KitX K (.ref e) (.ref C) (fun h=>PySem.W.InstAt h e oe C (some od)) where
 ty:=fun _ _ _ I=>I.type
 it:=fun _ _ X _=>by
  obtain⟨cd,hcd,_⟩:=S.cls
  unfold PySem.W.clsIn at hcd
  split at hcd
  ·rename_i ho
   intro A' Q' E' s' k q
   unfold isType loadHead
   exact wpAny_bind (wpAny_loadPart (k _ _ (X _ _ ho)) (wpAny_pure q))
  ·cases hcd
 ne:=fun h tp dd its n sl X htp=>by
  obtain⟨cd,hcd,_⟩:=S.cls
  refine Bool.eq_false_iff.mpr fun q=>?_
  have z:C=tp:=Value.ref.inj (beq_iff_eq.mp q)
  subst z
  unfold PySem.W.clsIn at hcd
  split at hcd
  ·rename_i ho
   have y:=(X _ _ ho).symm.trans htp
   cases y
  ·cases hcd
 ca:=fun X I k=>Z94 X S I k
variable{X:Cx}{pins:List (Addr×Obj)}{σ:L2.St}{H:Hp}{s:Shared}{dx:Addr}{fs:List (Str×V)}
theorem Ec(I:Inv X pins σ H s)(he:H e=some (XO e (.ref C) (some dx)))(hd:H dx=some (.xd fs)):∃(oe od:Obj) (mA:Str→Option Value),PySem.W.InstAt s.heap e oe C (some od)∧(∀name,PySem.W.lookIn name od=some (mA name))∧∀f,RelO (fs.lookup f) (mA f):=by
 obtain⟨tb,oe,vs,h1,⟨h2,h3⟩,h4,_⟩:=XO.at (I.hok e _ he)
 obtain⟨mA,hn,hr⟩:=(show Ys X.prog X.w H s.heap dx (.xd fs) from I.hok dx _ hd)
 obtain⟨od,q1,q2⟩:=Nr hn
 refine⟨oe,od,mA,⟨h1,h2,by unfold PySem.W.notCls;rw[h4],by rw[h3];exact q1⟩,q2,hr⟩
def rIsX(K:PySem.W.Frag):List V→Hp→VK→Prop:=fun xs H Q=>∃e C dx fs c cv b,xs=[.ref e,c]∧H e=some (XO e (.ref C) (some dx))∧H dx=some (.xd fs)∧ExcIs K C∧(∀u,RelV c u→u=cv)∧PySem.W.kitOne K (.ref C) cv=some b∧Q (.bl b) H
theorem Gq:Vj X (.builtin "isinstance") (rIsX X.K):=by
 intro pins s σ H xs us Q I r h
 obtain⟨e,C,dx,fs,c,cv,b,rfl,he,hd,S,hc,k,q⟩:=h
 obtain⟨u,v,rfl,ru,rv⟩:=Jk r
 obtain rfl:u=Value.ref e:=ru
 cases hc v rv
 obtain⟨oe,od,mA,J,_⟩:=Ec I he hd
 exact PySem.W.kia_one (Ep S) I.kIn J k (fun z=>nomatch z) fun tk=>⟨.bl b,H,I.tok tk,rfl,q⟩
end
def XP(X:Cx)(pins:List (Addr×Obj))(σ:L2.St)(E:XK)(x:Value)(s':Shared):Prop:=∃(e T:Addr) (cls:Value) (dd:Option Addr) (H':Hp),x= .ref e∧Inv X pins σ H' s'∧FpOk X pins H' T∧T≠e∧H' e=some (XO e cls dd)∧
 ExAt s'.heap e cls dd (.ref T)∧TbAt s'.heap T .none∧E cls dd H'
abbrev TEX:=L2.St→Hp→VK→XK→Prop
abbrev TSX:=Ends→XK→L2.St→Hp→Prop
def PEX(X:Cx)(e:Expr)(t:TEX):Prop:=
 ∀(pins:List (Addr×Obj)) (s:Shared) (σ:L2.St) (H:Hp) (Q:VK) (E:XK),Inv X pins σ H s→t σ H Q E→wpAny (model X.prog X.w) X.A (eval e X.env) (EP X pins σ Q) (XP X pins σ E) s
def PSX(X:Cx)(st:List Stmt)(t:TSX):Prop:=
 ∀(pins:List (Addr×Obj)) (s:Shared) (σ:L2.St) (H:Hp) (D:Ends) (E:XK),Inv X pins σ H s→t D E σ H→wpAny (model X.prog X.w) X.A (execs st X.env) (SP X pins D) (XP X pins σ E) s
section
variable{X:Cx}{k:Nat}{f:Addr}{fd:FuncData}{ps:List Str}{sp:Sp}{dvs:List V}{ds:List Value}{x:Str}{p pos:Pos}{e:Expr}{es:List Expr}{t:TA}
theorem Zz5{pins:List (Addr×Obj)}{σ:L2.St}{H:Hp}{s s':Shared}{E:XK}{x:Value}(I:Inv X pins σ H s)(h:CX1 X.prog X.w X.stack H s E x s'):XP X pins σ E x s':=by
 obtain⟨ea,T,cls,dd,H',eq,os,bare,un,hok,⟨f1,f2⟩,g1,⟨g2,g3⟩,x1,t1,hE⟩:=h
 have J:Inv X pins σ H' s':=I.call' (ch:=[]) os un hok bare fun b z=>absurd z (by simp)
 exact⟨ea,T,cls,dd,H',eq,J,I.fpOk f2 g2,g3,g1,x1,t1,hE⟩
def Zj4(sp:Sp)(dvs:List V)(t:TA):TEX:=fun σ H Q E=>t σ H fun vs H1=>sp (vs++dvs) H1 Q E
theorem Zg9(F:FnOk X.prog X.w X.K X.mg X.base (CX1 X.prog X.w) k f fd ps sp)(hr:Room k X.A)(hg:Gl X x)(hm:X.mg x=some (.ref f))(hk:PySem.W.keepIn X.K (.ref f)=true)(hb:Zr X.K fd ps ds)(hd:Vals dvs ds)
  (ha:PA X.nox (e::es) t) (hdb:(x==("__debug__":Str))=false:=by decide) (he:starEach (e::es) X.env=(false,eval e X.env)::starEach es X.env:=by rfl) (hpl:(backTo pos (starEach es X.env)).any (·.1)=false:=by rfl):
  PEX X (.Call (.Name x p) (e::es) [] pos) (Zj4 sp dvs t):=by
 intro pins s σ H Q E I h
 refine wpAny_Call_Name_kw (Wh I hg hm ?_ hdb)
 refine PySem.W.callWith_K (h₀:=X.base) I.ok.mod.kin hk (wpAny_mono (ha pos pins s σ H _ (I.wish _) h) (fun us s1 zz63=>?_) fun _ _ z=>z.elim) he hpl
 obtain⟨vs,H1,I1,r,q⟩:=zz63
 have I2:Inv X pins σ H1 s1:=I1.unwish
 refine⟨I2.kIn,?_⟩
 have r2:Vals (vs++dvs) (us++ds):=r.append hd
 have hl:(us++ds).length=ps.length:=by rw[←r2.length];exact F.len _ _ _ _ q
 refine wpAny_call (codeAny_mono (F.run X.A X.stack s1 H1 ⟨us,[]⟩ (us++ds) (vs++dvs) Q E hr I2.env0 (hb s1 us I2.kIn hl) r2 q) fun rr s' hq=>?_)
 cases rr with
 | error z=>exact Zz5 I2 hq
 | ok fl=>
  cases fl with
  | ret u=>exact I2.after hq
  | next=>exact False.elim hq
  | brk=>exact False.elim hq
  | cont=>exact False.elim hq
variable{te:TEX}
def Y00(te:TEX):TSX:=fun D E σ H=>te σ H (fun _ H1=>D.nx σ H1) E
theorem Za4(he:PEX X e te)(hs:swapsWith e none pos.line X.env=pure false:=by rfl):PSX X [.Expr e pos] (Y00 te):=by
 intro pins s σ H D E I h
 refine wpAny_execs_cons (wpAny_Expr_any (thn (he pins s σ H _ E I h) fun u s1 h1=>?_) I.quiet hs)
 obtain⟨v,H1,I1,r,q⟩:=h1
 exact wpAny_execs_nil ⟨σ,H1,I1,q⟩
def Y63(te:TEX):TSX:=fun D E σ H=>te σ H D.rt E
theorem Zs9(he:PEX X e te):PSX X [.Return (some e) pos] (Y63 te):=by
 intro pins s σ H D E I h
 refine wpAny_execs_cons (wpAny_Return_some (thn (he pins s σ H _ E I h) fun u s1 h1=>?_))
 obtain⟨v,H1,I1,r,q⟩:=h1
 exact⟨v,σ,H1,I1,r,q⟩
def Y81(te:TEX)(i:Nat):TSX:=fun D E σ H=>te σ H (fun y H1=>D.nx (σ.set i (some y)) H1) E
theorem Zp6{i:Nat}{x:Str}{pos':Pos}(hN:X.N.Nodup)(hi:X.N[i]?=some x)(hx:Loc X.env.scope x)(he:PEX X e te)(hs:swapsWith e (some (.Name x pos')) pos.line X.env=pure false:=by rfl)(hf:X.fn x=true∨X.env.scope.names.lookup x=some .local:=by first | exact .inl rfl | exact .inr rfl | assumption):
  PSX X [.Assign [.Name x pos'] e pos] (Y81 te i):=by
 intro pins s σ H D E I h
 refine wpAny_execs_cons (wpAny_Assign_Name (thn (he pins s σ H _ E I h) fun v s1 h1=>?_) hs)
 obtain⟨y,H1,I1,r1,q1⟩:=h1
 exact Gz I1 hN hi hx r1 (fun s2 I2=>wpAny_execs_nil ⟨_,H1,I2,q1⟩) hf
end
noncomputable def Held(X:Cx)(e:Addr):Cx:={X with A:=X.A.mark (some (.ref e)),calm:=false,xe:=fun _ _=>False}
section
variable{X:Cx}{pins:List (Addr×Obj)}{σ:L2.St}{H:Hp}{s:Shared}{e:Addr}
theorem Zr9(ok:X.Ok)(e:Addr):(Held X e).Ok:=
 ⟨ok.mod,ok.kind,ok.glob,ok.blt,ok.above,ok.inj,ok.has,ok.cab,(fun z=>nomatch z),ok.frames,ok.stk,ok.exf,ok.bs,ok.bsz,ok.noex,ok.exfs,ok.funs,ok.frf⟩
theorem Zn3(I:Inv X pins σ H s)(e:Addr):Inv (Held X e) pins σ H s:=⟨Zr9 I.ok e,I.os,I.bare,I.base,I.loc,I.cell,I.free,I.freeC,I.pin,I.hok,I.len⟩
theorem Sd(ok:X.Ok)(I:Inv (Held X e) pins σ H s):Inv X pins σ H s:=⟨ok,I.os,I.bare,I.base,I.loc,I.cell,I.free,I.freeC,I.pin,I.hok,I.len⟩
theorem Zb5{T T1:Addr}{cls:Value}{dd:Option Addr}{h1:Heap}(I:Inv X pins σ H s)(ft:FpOk X pins H T)(he:H e=some (XO e cls dd))(x1:ExAt h1 e cls dd (.ref T1))(fl:Flown (frsE X.stack) [e,T] s.heap h1):
  Inv X pins σ H {s with heap:=h1}:=by
 obtain⟨f0,f1,f2,f3,f4,f5⟩:=ft
 have ne:∀b,H b=none→b≠e:=fun b n z=>by rw[z,he] at n;cases n
 have hk:∀b o,b∉frsE X.stack→b≠T→b≠e→s.heap.get? b=some o→h1.get? b=some o:=fun b o z1 z2 z3 q=>fl.keep b o q z1 (by simp[z2,z3])
 have hs:∀b o,b≠T→b≠e→s.heap.get? b=some o→∃sl,h1.get? b=some {o with slots:=sl}:=fun b o z2 z3 q=>by
  by_cases z1:b∈frsE X.stack
  ·exact fl.slot b o q z1 (by simp[z2,z3])
  ·exact⟨o.slots,hk b o z1 z2 z3 q⟩
 refine I.step (g':=s.gens) (t':=s.toks) (d':=s.drawn) (ch:=[T]) (fun b hb=>?_) (fun b o z1 z2 z3 q n=>hk b o (fun z=>?_) (by simpa using z3) (ne b n) q) (fun b o _ _ z3 q n=>hs b o (by simpa using z3) (ne b n) q) (fun _ _ _ _ n=>n)
  (fun b o _ q=>fl.there b o q) (fun _ _ q=>q) (fun _ _ _ q=>q) (fun _ ps q=>⟨#[],by rw[q];simp⟩) (fun m hm=>?_) ?_ I.bare
 ·rw[List.mem_singleton.mp hb]
  exact⟨f3,f1,f4,f5⟩
 ·rcases List.mem_cons.mp (I.stkSub b z) with y | y
  ·exact z1 y
  ·exact z2 y
 ·obtain⟨o,es,ep,ho,r⟩:=hm
  obtain⟨sl,q⟩:=hs _ o (Ne.symm f1) (ne _ I.free) ho
  exact⟨_,es,ep,q,r⟩
 ·refine Ny I.hok he x1 fun b u o q hb r=>hk b o (fun z=>?_) (fun z=>?_) hb r
  ·rw[I.stkFree b z] at q;cases q
  ·rw[z,f0] at q;cases q
theorem Gp{T1:Addr}{h2:Heap}(I:Inv X pins σ H s)(ft:FpOk X pins H T1)(k:∀b o,b≠T1→s.heap.get? b=some o→h2.get? b=some o):Inv X pins σ H {s with heap:=h2}:=by
 obtain⟨f0,f1,f2,f3,f4,f5⟩:=ft
 exact I.turned (t':=s.toks) k f0 f1 f3 f4 f5
end
structure Catch(K:PySem.W.Frag)(C D:Addr)(b:Bool):Prop where
 ty:PySem.W.typeIn K (.ref D)=some (.type "type")
 cls:(PySem.W.clsIn K D).isSome=true
 exc:PySem.W.mroIn K D (.type "BaseException")=some true
 sub:PySem.W.mroIn K C (.ref D)=some b
section
open PySem.W
theorem Gc{prog:Program}{w:World}{A:Around}{E:Value→Shared→Prop}{K:Frag}{C D e:Addr}{b:Bool}{oe:Obj}{s:Shared}{Q:Bool→Shared→Prop}(X:K.In s.heap)(S:Catch K C D b)(he:s.heap.get? e=some oe)(hc:oe.cls= .ref C)(h:Q b s):
  wpAny (model prog w) A (excMatches (.ref e) (.ref D)) Q E s:=by
 obtain⟨ht,hD,hB,hs⟩:=S
 obtain⟨hp,g,d,t,os⟩:=s
 have L1:Looks (model prog w) hp (typeOf (.ref D)) (.type "type"):=looks_typeIn X ht
 have L2:Looks (model prog w) hp (isType (.ref D)) true:=by
  unfold clsIn at hD
  split at hD
  ·rename_i ho
   intro A' Q' E' s' k q
   unfold isType loadHead
   exact wpAny_bind (wpAny_loadPart (k _ _ (X _ _ ho)) (wpAny_pure q))
  ·cases hD
 have L3:Looks (model prog w) hp (isSubtype (.ref D) (.type "BaseException")) true:=looks_mroIn X hB
 have L4:Looks (model prog w) hp (typeOf (.ref e)) (.ref C):=by rw[←hc];exact(Looks.ld he).andThen .now
 have L5:Looks (model prog w) hp (isSubtype (.ref C) (.ref D)) b:=looks_mroIn X hs
 unfold excMatches isInstance
 refine wpAny_bind (wpAny_bind (L1.at ?_))
 rw[tc_notTuple]
 refine wpAny_pure ?_
 simp only[Bool.false_eq_true,if_false]
 refine wpAny_bind (wpAny_pure ?_)
 rw[List.forIn_cons]
 refine wpAny_bind (wpAny_bind ?_)
 unfold isExcClass
 refine wpAny_bind (wpAny_bind (L2.at ?_))
 simp only[if_true]
 refine L3.at ?_
 simp only[Bool.not_true,Bool.false_eq_true,if_false]
 refine wpAny_pure ?_
 show wpAny _ _ (pure PUnit.unit) _ _ _
 refine wpAny_pure ?_
 refine wpAny_bind (L4.at (wpAny_bind ?_))
 rw[List.forIn_cons]
 refine wpAny_bind (wpAny_bind (L5.at ?_))
 cases b with
 | true=>
  simp only[if_true]
  exact wpAny_pure (wpAny_pure (wpAny_pure h))
 | false=>
  simp only[Bool.false_eq_true,if_false]
  refine wpAny_pure ?_
  show wpAny _ _ (pure (none,PUnit.unit)) _ _ _
  exact wpAny_pure (wpAny_pure h)
end
section
variable{X:Cx}{body suite:List Stmt}{b₀:Stmt}{x n:Str}{np hpos pos:Pos}{D:Addr}{i:Nat}{tb:TSX}{ts:TS}
theorem Zr4{P:Program}{w:World}{K:PySem.W.Frag}{mg:Str→Option Value}{base:Heap}{x qual:Str}{st:Stmt}{f:Addr}{fd:FuncData}{N ps:List Str}{k:Nat}{sp:Sp}(F:Fun K x qual st f fd)(S:FnScope N ps (Z2 st))(len:∀vs H Q E,sp vs H Q E→vs.length=ps.length)
  (hbody:∀(cdv:Value) (A:Around) (outer:List Env) (s:Shared) (H:Hp) (vs:List V) (Q:VK) (E:XK),Room k (A.deeper (envOfC qual (Z2 st) s.heap.objs.size f cdv))→sp vs H Q E→
   ∃t,PSs (cxOf (CX1 P w) P w K mg base N qual (Z2 st) f cdv A outer s H E) (Z5 st) t∧t {nx:=fun _ H'=>Q .non H',rt:=Q} (start N vs) H):FnOk P w K mg base (CX1 P w) (k+1) f fd ps sp:=by
 obtain⟨oc,od,dV,kV,doc,pm,an,cdv,ct,osl,rfl,lk,hcd⟩:=F.ex
 exact Zu0 lk hcd S len fun A outer s H vs Q E hr hsp=>hbody cdv A outer s H vs Q E hr hsp
end
end L3
namespace L3
open PySem PyProof.Rows
section
variable{prog:Program}{w:World}{A:Around}{E:Value→Shared→Prop}{s:Shared}
abbrev Zj8(h:Heap)(z TI TO:Addr)(f0:Value)(b:Bool):Prop:=
 h.get? z=some {cls:= .type "zip",dict:=none,data:= .fields #[f0,.bool b,.bool false,.ref TI,.ref TO],slots:=#[]}
end
section
variable{prog:Program}{w:World}{A:Around}{E:Value→Shared→Prop}{s:Shared}
structure ZS(h0 h:Heap)(S z TI TO i1 i2 l1 l2:Addr)(xs ys:Array Value)(Ts:List Addr):Prop where
 kept:∀b o,h0.get? b=some o→h.get? b=some o
 zp:(Ts=[]∧Zj8 h z TI TO .none false∧∃a b,IsPair h TO a b)∨∃(T:Addr) (b:Bool) (oT:Obj),Zj8 h z TI TO (rawInt T) b∧h.get? T=some oT
 ti:IsPair h TI (.ref i1) (.ref i2)
 to:∃o,h.get? TO=some o
 t1:h.IsListIter i1 l1 Ts.length
 t2:h.IsListIter i2 l2 Ts.length
 nd:Ts.Nodup
 tp:∀(j:Nat) T,Ts[j]?=some T→∃x y,xs[j]?=some x∧ys[j]?=some y∧IsPair h T x y
 tb:∀T∈Ts,h0.objs.size≤T∧T≠z∧T≠TO∧T≠i1∧T≠i2∧T≠S
structure ZF(h0:Heap)(S z TI TO i1 i2 l1 l2:Addr)(xs ys:Array Value):Prop where
 D:ZipApart z TI TO i1 i2 l1 l2
 l1:h0.IsList l1 xs
 l2:h0.IsList l2 ys
 nz:h0.objs.size≤z
 nTO:h0.objs.size≤TO
 n1:h0.objs.size≤i1
 n2:h0.objs.size≤i2
 nS:h0.objs.size≤S
 sz:S≠z
 sTI:S≠TI
 sTO:S≠TO
 s1:S≠i1
 s2:S≠i2
end
structure ZEnd(h0 h:Heap)(S:Addr)(xs ys:Array Value)(Ts:List Addr):Prop where
 kept:∀b o,h0.get? b=some o→h.get? b=some o
 len:Ts.length=min xs.size ys.size
 nd:Ts.Nodup
 tp:∀(j:Nat) T,Ts[j]?=some T→∃x y,xs[j]?=some x∧ys[j]?=some y∧IsPair h T x y
 tb:∀T∈Ts,h0.objs.size≤T∧T≠S
 so:∃c,h.get? S=some {cls:= .type "list",dict:=none,data:= .seq (Ts.map Value.ref).toArray c,slots:=#[]}
section
variable{prog:Program}{w:World}{A:Around}{R:Result→Shared→Prop}
end
section
variable{prog:Program}{w:World}{A:Around}{E:Value→Shared→Prop}{s:Shared}{R:Result→Shared→Prop}
end
end L3
namespace L3
open PySem PySem.Spec PyProof.Rows L2
section
variable{X:Cx}{pins:List (Addr×Obj)}{σ:L2.St}{H H':Hp}{s:Shared}{h':Heap}
end
section
variable{X:Cx}
end
section
variable{X:Cx}
def tRev(K:PySem.W.Frag)(te:TE)(tk:TO):TE:=fun σ H Q=>te σ H fun x H1=>tk σ H1 fun o H2=>o=some (-1)∧∃a xs,x=V.ref a∧SqL K H2 a xs∧∀p,H2 p=none→Q (.ref p) (upd H2 p (.lst xs.reverse))
theorem Zx2{e k:Expr}{te:TE}{tk:TO}{p2 pos:Pos}(he:PE X e te)(hk:PO X (some k) tk):PE X (.Subscript e (.Slice none none (some k) p2) pos) (tRev X.K te tk):=by
 intro pins s σ H Q I h
 refine Subscript_ (thn (he pins s σ H _ I h) fun v s1 zz64=>?_)
 obtain⟨x,H1,I1,r1,q1⟩:=zz64
 refine wpAny_Slice ?_
 simp only[evalPart_none]
 refine wpAny_pure (wpAny_pure ?_)
 refine thn (hk pins s1 σ H1 _ I1 q1) fun vk s2 zz65=>?_
 obtain⟨o,H2,I2,pk,q2⟩:=zz65
 obtain⟨rfl,a,xs,rfl,hx,q⟩:=q2
 cases r1
 have I3:Inv X pins σ H2 {s2 with heap:=s2.heap.push {cls:= .type "slice",data:= .fields #[.none,.none,vk]}}:=I2.kept (t':=s2.toks) fun b ob q=>Heap.get?_push_of_some _ q
 obtain⟨its,r,ht,hz⟩:=I3.list hx
 have hlen:=r.length
 show wpAny (model X.prog X.w) X.A (subscriptTail e (.Slice none none (some k) p2) (.ref a) (.ref s2.heap.objs.size)) (EP X pins σ Q) X.xe {s2 with heap:=s2.heap.push {cls:= .type "slice",data:= .fields #[.none,.none,vk]}}
 refine tail_any (ops:=[.ref a,.ref s2.heap.objs.size]) ht.isList.typeIs slot_list_getitem.lookup ?_ (by with_unfolding_all rfl)
 refine wpAny_getItem_list_slice ht.isList (Heap.IsSliceOf.new ..) .none .none pk (by simp) ?_ (by rw[List.size_toArray]<;>omega)
 rw[PySem.W.krv_pick]
 refine⟨.ref _,_,I3.laid (t':=s2.toks) (o:= .lst xs.reverse) (fun b ob q=>Heap.get?_push_of_some _ q) (Nat.le_refl _) ?_,rfl,q _ (I3.hok.fresh (Nat.le_refl _))⟩
 exact⟨by rw[List.length_reverse];exact hz,_,0,r.reverse,Heap.get?_push_size _ rfl⟩
theorem Zl7{pins:List (Addr×Obj)}{σ:L2.St}{H:Hp}{s:Shared}{h':Heap}{t':Nat}{a b:Addr}(I:Inv X pins σ H s)(k:∀c o,c≠a→c≠b→s.heap.get? c=some o→h'.get? c=some o)(fa:FpOk X pins H a)(fb:FpOk X pins H b):Inv X pins σ H {s with heap:=h',toks:=t'}:=by
 have na:∀c u,H c=some u→c≠a:=by
  intro c u e z
  rw[z,fa.1] at e
  cases e
 have nb:∀c u,H c=some u→c≠b:=by
  intro c u e z
  rw[z,fb.1] at e
  cases e
 have kk:∀c o,c∉[a,b]→s.heap.get? c=some o→h'.get? c=some o:=by
  intro c o hc e
  refine k c o ?_ ?_ e
  ·intro z;apply hc;rw[z];simp
  ·intro z;apply hc;rw[z];simp
 refine I.step (ch:=[a,b]) (g':=s.gens) (d':=s.drawn) ?_ ?_ ?_ ?_ ?_ ?_ ?_ ?_ ?_ ?_ I.bare
 ·intro c hc
  have:c=a∨c=b:=by simpa using hc
  rcases this with rfl | rfl
  ·exact⟨fa.2.2.2.1,fa.2.1,fa.2.2.2.2.1,fa.2.2.2.2.2⟩
  ·exact⟨fb.2.2.2.1,fb.2.1,fb.2.2.2.2.1,fb.2.2.2.2.2⟩
 ·intro c o _ _ hc e _;exact kk c o hc e
 ·intro c o _ _ hc e _;exact⟨o.slots,kk c o hc e⟩
 ·intro _ _ _ _ n;exact n
 ·intro c o hc e;exact⟨o,kk c o hc e⟩
 ·intro _ _ e;exact e
 ·intro _ _ _ e;exact e
 ·intro c ps e;exact⟨#[],by rw[e];simp⟩
 ·rintro m ⟨o,es,ep,ho,r⟩
  exact⟨o,es,ep,k _ o (Ne.symm fa.2.1) (Ne.symm fb.2.1) ho,r⟩
 ·intro c u e
  refine(I.hok c u e).stay ?_ (fun _ q=>q) fun _ _ q=>q
  intro d v hd q
  rcases hd with z | z
  ·subst z;exact k d v (na d u e) (nb d u e) q
  ·exact k d v (na d _ z) (nb d _ z) q
noncomputable def Ite(K:PySem.W.Frag)(a:Addr):It:=
 ⟨fun i H=>∃xs x,SqL K H a xs∧xs[i]?=some x,fun i H x H'=>∃p y,H p=none∧H'=upd H p (.tup [.int i,y])∧x= .ref p∧∀xs,SqL K H a xs→xs[i]?=some y,fun i H=>∃xs,SqL K H a xs∧xs.length≤i⟩
theorem Qs{h:Heap}{o u:Obj}{b:Addr}(e:(h.push o).get? b=some u):h.get? b=some u∨b=h.objs.size:=by
 by_cases hb:b=h.objs.size
 ·exact .inr hb
 ·refine .inl ?_
  have hl:=Heap.lt_size e
  rw[Heap.size_push] at hl
  obtain⟨e1,e2⟩:=Heap.get?_some_iff.mp e
  refine Heap.get?_some_iff.mpr ⟨?_,e2⟩
  cases h
  simpa[Heap.push,Array.getElem?_push,hb] using e1
theorem Z63{P:Program}{w:World}{K:PySem.W.Frag}{elts:List Expr}{x1:Nat}{tp:Pos}(a e it:Addr)(hne:e≠it):
  Turn P w K (.Tuple elts x1 tp) (Ite K a) [e,it] e (fun i h=>(∃old,IsEnum h e it i old)∧h.IsListIter it a i) where
 mem:=by simp
 obj:=by
  rintro i h ⟨⟨old,he⟩,hit⟩ b hb
  have:b=e∨b=it:=by simpa using hb
  rcases this with rfl | rfl
  ·exact⟨_,he,fun v z=>by cases z⟩
  ·obtain⟨o,e,c,d⟩:=hit
   exact⟨o,e,fun v z=>by rw[d] at z;cases z⟩
 keep:=by
  rintro i h h' ⟨⟨old,he⟩,hit⟩ k
  exact⟨⟨old,k e (by simp) _ he⟩,hit.at fun o z=>k it (by simp) o z⟩
 item:=by
  rintro X rfl rfl rfl hc i pins s σ H E I hf ⟨⟨old,he⟩,hit⟩ ⟨xs,x,hq,hx⟩
  obtain⟨its,rv,p,hz⟩:=I.list hq
  obtain⟨u,hu,ru⟩:=rv.get hx
  have fe:=hf e (by simp)
  have fi:=hf it (by simp)
  have le:e<s.heap.objs.size:=Heap.lt_size he
  have li:it<s.heap.objs.size:=by obtain⟨o,z,_⟩:=hit;exact Heap.lt_size z
  refine wpAny_pyNext_enum_item he hit p.isList (x:=u) (by simpa using hu) hne fun h1 ho hit1 hT hsz hk=>?_
  refine⟨_,rfl,wpAny_letOwnedTupleGo_enum ho fun h2 he2 hs2=>?_⟩
  replace hs2:Heap.SameBut e h1 h2:=hs2
  have hT2:h2.get? s.heap.objs.size=some {cls:= .type "tuple",data:= .seq #[.int i s.toks,u]}:=(hs2.2 _ (Nat.ne_of_gt le)).trans hT
  have hn:H s.heap.objs.size=none:=I.hok.fresh (Nat.le_refl _)
  have I1:Inv X pins σ (upd H s.heap.objs.size (.tup [.int i,x])) {s with heap:=s.heap.push {cls:= .type "tuple",data:= .seq #[.int i s.toks,u]},toks:=s.toks+1}:=by
   refine I.laid (fun b ob q=>Heap.get?_push_of_some _ q) (Nat.le_refl _) ⟨show 2≤sizeLine by rw[sizeLine_eq];omega,[.int i s.toks,u],.cons ⟨_,rfl⟩ (.cons ru .nil),⟨_,Heap.get?_push_size _ rfl,rfl,_,rfl⟩⟩
  have up:∀b,b<s.heap.objs.size→FpOk X pins H b→FpOk X pins (upd H s.heap.objs.size (.tup [.int i,x])) b:=by
   rintro b lb ⟨f0,f⟩
   refine⟨?_,f⟩
   rw[Ze (Nat.ne_of_lt lb)]
   exact f0
  have I2:=Zl7 (h':=h2) (t':=s.toks+1) I1 (fun c o ha hb e'=>by
   rcases Qs e' with z | z
   ·exact(hs2.2 c ha).trans (hk c o ha hb z)
   ·subst z
    have z2:(s.heap.push {cls:= .type "tuple",data:= .seq #[.int i s.toks,u]}).get? s.heap.objs.size=some o:=e'
    rw[Heap.get?_push_size _ rfl] at z2
    cases z2
    exact hT2) (up e le fe) (up it li fi)
  refine⟨.ref s.heap.objs.size,_,I2,rfl,⟨_,x,hn,rfl,rfl,fun ys hy=>by rw[I.list_inj hy hq];exact hx⟩,⟨⟨_,by simpa using he2⟩,hit1.at fun o z=>(hs2.2 it (Ne.symm hne)).trans z⟩,fun b hb=>?_⟩
  have:b=e∨b=it:=by simpa using hb
  rcases this with rfl | rfl
  ·exact(up _ le fe).1
  ·exact(up _ li fi).1
 done:=by
  rintro X rfl rfl rfl hc i pins s σ H E I hf ⟨⟨old,he⟩,hit⟩ ⟨xs,hq,hx⟩
  obtain⟨its,rv,p,hz⟩:=I.list hq
  obtain⟨f0,f1,f2,f3,f4,f5⟩:=hf it (by simp)
  have hl:=rv.length
  exact wpAny_pyNext_enum_end (I.ok.hd hc) he hit p.isList (by simp;omega) fun h' eb=>⟨rfl,I.turned (t':=s.toks) (fun b o hb e=>eb b o hb e) f0 f1 f3 f4 f5⟩
 self:=by
  rintro A i s Q E ⟨⟨old,he⟩,hit⟩ h
  exact wpAny_pyIter_enum he h
def Y72(K:PySem.W.Frag)(ta:TA):TI:=fun σ H R=>ta σ H fun vs H1=>∃a,vs=[V.ref a]∧(∃xs,SqL K H1 a xs)∧R (Ite K a) H1
theorem Zt2{elts:List Expr}{x1:Nat}{tp:Pos}{l:Expr}{ta:TA}{p pos:Pos}(hg:Gl X "enumerate")(hm:X.mg "enumerate"=none)(ha:PA X [l] ta)(hs:starEach [l] X.env=[(false,eval l X.env)]):
  PI X (.Tuple elts x1 tp) (.Call (.Name "enumerate" p) [l] [] pos) (Y72 X.K ta):=by
 intro pins s σ H R I h
 refine Call_ (Sy I hg hm (u:= .type "enumerate") (by kernel_rfl) (PyProof.Rows.callWith_type1 (thn (ha pos pins s σ H _ I h) fun us s1 zz66=>?_) hs rfl))
 obtain⟨vs,H1,I1,r1,q1⟩:=zz66
 obtain⟨a,rfl,⟨xs,hq⟩,q⟩:=q1
 obtain⟨u,rfl,ru⟩:=Q4 r1
 cases ru
 obtain⟨its,rv,pl,hz⟩:=I1.list hq
 refine call_enumerate_list pl.isList fun h' he hit hsz hk=>?_
 refine wpAny_pyIter_enum he ?_
 have hne:s1.heap.objs.size+1≠s1.heap.objs.size:=by omega
 refine⟨s1.heap.objs.size+1,[s1.heap.objs.size+1,s1.heap.objs.size],_,_,H1,rfl,I1.kept (t':=s1.toks) hk,Z63 a _ _ hne,⟨⟨_,he⟩,hit⟩,fun b hb=>?_,q⟩
 have hb':s1.heap.objs.size≤b:=by
  have:b=s1.heap.objs.size+1∨b=s1.heap.objs.size:=by simpa using hb
  rcases this with rfl | rfl
  ·exact Nat.le_succ _
  ·exact Nat.le_refl _
 exact I1.fpOk hb' (I1.hok.fresh hb')
end
end L3
namespace PySem
theorem Nn:typeLookup (.type "list") "keys"=pure none:=by rw[typeLookup_type,builtinLookup_eq_fast];kernel_rfl
theorem Zs1{prog:Program}{w:World}{A:Around}{E:Value→Shared→Prop}{s:Shared}{a:Addr}{o:Obj}{xs:Array Value}{k:Nat}{name:Str}{u:Tok}{Q:Value→Shared→Prop}
  (hx:s.heap.get? a=some o) (hc:o.cls= .type "list") (hdat:o.data= .seq xs k) (hd:o.dict=none) (hmiss:typeLookup (.type "list") name=pure none) (hname:(["__module__","__name__","__qualname__","__doc__","__annotations__"]:List Str).contains name=false) (hA:A.handled=none)
  (h:∀h' tk e,Heap.NewExcOf s.heap h' e "AttributeError"→E (.ref e) {s with heap:=h',toks:=tk}) (hsz:name.length+100≤sizeLine:=by size_fits):
  wpAny (model prog w) A (getAttrBy (.ref a) (.str name u) false) Q E s:=by
 obtain⟨c,dct,dat,sl⟩:=o
 simp only at hc hdat hd
 subst hc hdat hd
 obtain⟨hp,g,d,tk,os⟩:=s
 have hT:∀tk',(⟨hp,g,d,tk',os⟩:Shared).TypeIs (.ref a) "list":=fun _=>⟨_,hx,rfl⟩
 have f1:=sub_AttributeError
 have f3:=F.slot_list_getattribute.lookup
 have f4:=F.slot_list_getattribute.bind (.ref a)
 have f5:=am_list_getattr_none
 unfold getAttrBy
 repeat (any_goals (first | assumption | exact hT _ | ((with_reducible show wpAny _ _ (call (Value.builtin "list.__getattribute__") _ _) _ _ _);refine call_meets F.slot_list_getattribute (hT _) am_entry_list_getattribute (F.args_list_getattribute_2 _ _) (meets_getattribute_miss_list a xs k sl name _ hmiss hname hsz) ⟨hx,hA,fun h' tk' e hx'=>?_⟩) | wp_step))
 obtain⟨t',u',he⟩:=hx'.there
 show wpAny _ _ (getattributeRaised _ _ _ _ _ _ _) _ _ _
 unfold getattributeRaised
 repeat (any_goals (first | assumption | wp_step))
 exact h _ _ _ hx'.of
theorem Zs3{prog:Program}{w:World}{A:Around}{E:Value→Shared→Prop}{s:Shared}{a:Addr}{o:Obj}{xs:Array Value}{k:Nat}{Q:Option Value→Shared→Prop}
  (hx:s.heap.get? a=some o) (hc:o.cls= .type "list") (hdat:o.data= .seq xs k) (hd:o.dict=none) (hA:A.handled=none)
  (h:∀h' tk,(∀b o,s.heap.get? b=some o→h'.get? b=some o)→Q none {s with heap:=h',toks:=tk}):wpAny (model prog w) A (getAttr? (.ref a) "keys") Q E s:=by
 obtain⟨hp,g,d,tk,os⟩:=s
 unfold getAttr? getAttrBy?
 have f1:=sub_AttributeError
 repeat (any_goals (first | assumption | ((with_reducible show wpAny _ _ (getAttrBy _ _ false) _ _ _);refine Zs1 hx hc hdat hd Nn (by decide+kernel) hA fun h' tk' e hx'=>?_;obtain⟨ob,vs,he,hcl,_,_⟩:=hx'.there;refine wpAny_bind (wpAny_isInstance (T:="AttributeError") ⟨ob,he,hcl⟩ f1 ?_);exact wpAny_pure (h h' tk' hx'.keeps)) | wp_step))
section
variable{prog:Program}{w:World}{A:Around}{E:Value→Shared→Prop}{R:Result→Shared→Prop}
theorem Vt:entryFor table "dict.update.loop"=some Builtin.«dict.update.loop»:=entryFor_of_tree (by kernel_rfl)
theorem Xo:plainId "dict.update.loop"=true:=by decide+kernel
def Zn5{K:Type}[DecidableEq K](knd:KeyKind prog w K)(h:Heap)(v:Value)(p:K×Value):Prop:=∃t u,v= .ref t∧h.IsTuple t #[u,p.2]∧knd.is p.1 u=true
theorem Gs{K:Type}[DecidableEq K]{knd:KeyKind prog w K}{h:Heap}{d I l:Addr}{i:Nat}{kvs:List (K×Value)}(hd:h.DictOf knd d kvs)(hI:h.IsListIter I l i):d≠I:=by
 rintro rfl
 obtain⟨o,_,_,ho,_,hc,_⟩:=hd
 obtain⟨o2,ho2,_,hc2⟩:=hI
 rw[ho] at ho2
 cases ho2
 rw[hc] at hc2
 cases hc2
theorem Zt8{K:Type}[DecidableEq K]{knd:KeyKind prog w K}{l I d:Addr}{items:Array Value}{ps:List (K×Value)}(hh:A.in1.handled=none)(hsz:items.size<sizeLine)(hps:ps.length=items.size):
  ∀(k i:Nat) (s:Shared) (kvs:List (K×Value)) (t:Tok),items.size - i=k→i≤items.size→kvs.length≤i→
  s.heap.IsListIter I l i→s.heap.IsList l items→s.heap.DictOf knd d kvs→(∀(j:Nat) v p,items[j]?=some v→ps[j]?=some p→Zn5 knd s.heap v p)→
  (∀h' tk,h'.DictOf knd d ((ps.drop i).foldl (fun m p=>stored m p.1 p.2) kvs)→(∀b o,b≠I→b≠d→s.heap.get? b=some o→h'.get? b=some o)→R (.ok (.ret .none)) {s with heap:=h',toks:=tk})→
  codeAny (model prog w) A (.builtin "dict.update.loop" ⟨[.ref d,.ref I,.int i t,.none],[]⟩) R s:=by
 intro k
 induction k with
 | zero=>
  intro i s kvs t hk hi hkv hI hl hd hp q
  have hin:i=items.size:=by omega
  refine codeAny_builtin Vt ?_
  rw[Around.under_plainId Xo _]
  show wpAny _ A.in1 (pyNext (.ref I) >>=_) _ _ s
  refine wpAny_bind (wpAny_pyNext_list_end hh hI hl (by rw[hin];simp) fun h' he=>?_)
  show wpAny _ _ (Builtin.Dict.addKeywords d [] >>=_) _ _ _
  refine wpAny_bind (wpAny_pure (wpAny_pure ?_))
  have hdI:=Gs hd hI
  refine q h' _ ?_ fun b o h1 _ e=>he b o h1 e
  rw[List.drop_of_length_le (by omega)]
  exact hd.extBut he hdI
 | succ k ih=>
  intro i s kvs t hk hi hkv hI hl hd hp q
  have hlt:i<items.size:=by omega
  obtain⟨v,hv⟩:∃v,items[i]?=some v:=⟨_,Array.getElem?_eq_getElem hlt⟩
  obtain⟨p,hpi⟩:∃p,ps[i]?=some p:=⟨_,List.getElem?_eq_getElem (by omega)⟩
  refine codeAny_builtin Vt ?_
  rw[Around.under_plainId Xo _]
  show wpAny _ A.in1 (pyNext (.ref I) >>=_) _ _ s
  refine wpAny_bind (wpAny_pyNext_list_item hI hl hv fun h' hI' hs'=>?_)
  obtain⟨tt,u,rfl,htp,hku⟩:=hp i v p hv hpi
  have hdI:=Gs hd hI
  have keepI:∀b o,b≠I→s.heap.get? b=some o→h'.get? b=some o:=fun b o hb e=>(hs'.2 b hb).trans e
  have tI:tt≠I:=by
   rintro rfl
   obtain⟨o,ho,_,n,hc⟩:=htp
   obtain⟨o2,ho2,_,hc2⟩:=hI
   rw[ho] at ho2;cases ho2;rw[hc] at hc2;cases hc2
  have lI:l≠I:=by
   rintro rfl
   obtain⟨o,ho,_,n,hc⟩:=hl
   obtain⟨o2,ho2,_,hc2⟩:=hI
   rw[ho] at ho2;cases ho2;rw[hc] at hc2;cases hc2
  have nd:∀(b:Addr) (o:Obj) xs n,s.heap.get? b=some o→o.data= .seq xs n→b≠d∧b≠I:=by
   intro b o xs n ho hc
   constructor
   ·rintro rfl
    obtain⟨o2,_,_,ho2,_,hc2,_⟩:=hd
    rw[ho] at ho2;cases ho2;rw[hc] at hc2;cases hc2
   ·rintro rfl
    obtain⟨o2,ho2,_,hc2⟩:=hI
    rw[ho] at ho2;cases ho2;rw[hc] at hc2;cases hc2
  obtain⟨ot,hot,hct,nt,hdt⟩:=id htp
  show wpAny _ _ (holding [.ref tt] _ >>=_) _ _ _
  refine wpAny_bind (wpAny_holding (wpAny_bind (wpAny_tryCatch ?_)))
  unfold Builtin.Dict.pairItems
  refine wpAny_bind (wpAny_typeOf (T:="tuple") ⟨ot,keepI _ _ tI hot,hct⟩ ?_)
  rw[if_pos (by decide)]
  refine wpAny_bind (wpAny_seqItems (keepI _ _ tI hot) hdt ?_)
  refine wpAny_pure ?_
  show wpAny _ _ (holding [u,p.2] (dictSet d u p.2)) _ _ _
  have hd':h'.DictOf knd d kvs:=hd.extBut (fun b o hb e=>keepI b o hb e) hdI
  refine wpAny_holding (wpAny_dictSet_pairs hku hd' (fun h2 hd2 hs2=>?_) (by omega))
  refine wpAny_pure ⟨plainId_quiet Xo _,?_⟩
  have keep2:∀b o,b≠I→b≠d→s.heap.get? b=some o→h2.get? b=some o:=fun b o h1 h3 e=>(hs2.2 b h3).trans (keepI b o h1 e)
  have:=ih (i+1) {s with heap:=h2,toks:=s.toks+1} (stored kvs p.1 p.2) 0 (by omega) (by omega) ?_ ?_ ?_ hd2 ?_ ?_
  ·exact this
  ·unfold stored
   split
   ·rw[List.length_map];omega
   ·rw[List.length_append,List.length_singleton];omega
  ·obtain⟨o,ho,r⟩:=hI'
   exact⟨o,(hs2.2 I (Ne.symm hdI)).trans ho,r⟩
  ·obtain⟨o,ho,hc,n,r⟩:=hl
   exact⟨o,keep2 _ _ (nd _ _ _ _ ho r).2 (nd _ _ _ _ ho r).1 ho,hc,n,r⟩
  ·intro j v p' h1 h3
   obtain⟨t3,u3,e3,⟨o,ho,hc,n,r⟩,g3⟩:=hp j v p' h1 h3
   exact⟨t3,u3,e3,⟨o,keep2 _ _ (nd _ _ _ _ ho r).2 (nd _ _ _ _ ho r).1 ho,hc,n,r⟩,g3⟩
  ·intro h3 tk3 hd3 k3
   refine q h3 tk3 ?_ fun b o h1 h4 e=>k3 b o h1 h4 (keep2 b o h1 h4 e)
   rw[List.drop_eq_getElem_cons (by omega:i<ps.length)]
   rw[List.getElem?_eq_getElem (by omega)] at hpi
   cases hpi
   exact hd3
variable{s:Shared}
theorem Zo5{K:Type}[DecidableEq K]{knd:KeyKind prog w K}{l:Addr}{o:Obj}{n:Nat}{items:Array Value}{ps:List (K×Value)}{Q:Value→Shared→Prop}(hh:A.handled=none)
  (ho:s.heap.get? l=some o) (hc:o.cls= .type "list") (hdat:o.data= .seq items n) (hdi:o.dict=none) (hsz:items.size<sizeLine) (hps:ps.length=items.size)
  (hp:∀(j:Nat) v p,items[j]?=some v→ps[j]?=some p→Zn5 knd s.heap v p)
  (h:∀h' tk,h'.DictOf knd s.heap.objs.size (ps.foldl (fun m p=>stored m p.1 p.2) [])→(∀b o,s.heap.get? b=some o→h'.get? b=some o)→Q (.ref s.heap.objs.size) {s with heap:=h',toks:=tk}):
  wpAny (model prog w) A (call (.type "dict") [.ref l]) Q E s:=by
 refine callType_codes (Q₁:=fun obj s₁=>obj= .ref s.heap.objs.size∧s₁={s with heap:=s.heap.push {cls:= .type "dict",data:= .dict #[]}}) F.kt_called_dict (F.kt_typeCall_dict_1 _) F.entry_dict_init (kt_code_dict_new _ ⟨rfl,rfl⟩) ?_
 rintro obj s₁ ⟨rfl,rfl⟩
 have hnew:(s.heap.push {cls:= .type "dict",data:= .dict #[]}).DictOf knd s.heap.objs.size []:=Heap.DictOf.new s.heap
 refine⟨hnew.typeIs,F.args_dict_init_2 _ _,?_⟩
 unfold Builtin.«dict.__init__»
 refine wpAny_bind ?_
 unfold Builtin.Dict.selfAndRest
 refine wpAny_bind (wpAny_notOrdered_dict hnew.typeIs ?_)
 show wpAny _ _ (pure (s.heap.objs.size,[Value.ref l])) _ _ _
 refine wpAny_pure ?_
 show wpAny _ _ (Builtin.Dict.updateFrom "dict.__init__" s.heap.objs.size (.ref l) [] .none) _ _ _
 unfold Builtin.Dict.updateFrom
 have ho':(s.heap.push {cls:= .type "dict",data:= .dict #[]}).get? l=some o:=Heap.get?_push_of_some _ ho
 refine wpAny_bind (wpAny_typeOf (T:="list") ⟨o,ho',hc⟩ ?_)
 rw[if_pos (by decide)]
 refine wpAny_bind (Zs3 ho' hc hdat hdi (by first | exact hh | rfl) fun h1 tk1 k1=>?_)
 simp only[Option.isNone_none,if_true]
 have hl1:h1.IsList l items:=⟨o,k1 _ _ ho',hc,n,hdat⟩
 have hd1:h1.DictOf knd s.heap.objs.size []:=by
  obtain⟨q,es,ep,hq,r⟩:=hnew
  exact⟨q,es,ep,k1 _ _ hq,r⟩
 have old:∀b o,s.heap.get? b=some o→h1.get? b=some o:=fun b o e=>k1 b o (Heap.get?_push_of_some _ e)
 refine wpAny_bind (wpAny_rule ?_)
 refine wpAny_bind (wpAny_pyIter_list hl1 ?_)
 refine wpAny_pure ⟨plainId_quiet Xo _,?_⟩
 refine Zt8 (A:=A.in1) (knd:=knd) (ps:=ps) hh hsz hps _ 0 _ [] 0 rfl (Nat.zero_le _) (Nat.zero_le _) ⟨_,Heap.get?_push_size _ rfl,rfl,rfl⟩ (hl1.push _) (hd1.push _) ?_ ?_
 ·intro j v p h2 h3
  obtain⟨t,u,e,⟨q,hq,r⟩,g⟩:=hp j v p h2 h3
  exact⟨t,u,e,⟨q,Heap.get?_push_of_some _ (old _ _ hq),r⟩,g⟩
 ·intro h' tk hd' hk
  refine⟨rfl,h h' tk hd' fun b o e=>hk b o ?_ ?_ (Heap.get?_push_of_some _ (old _ _ e))⟩
  ·exact Nat.ne_of_lt (Heap.lt_size (old _ _ e))
  ·exact Nat.ne_of_lt (Heap.lt_size e)
end
end PySem
namespace L3
open PySem PySem.Spec PyProof.Rows L2
section
variable{X:Cx}{pins:List (Addr×Obj)}{σ:L2.St}{H:Hp}{s:Shared}
def Jf(K:PySem.W.Frag)(H:Hp):List V→List (Key×V)→Prop
 | [],[]=>True
 | v::r,p::q=>(∃t,v= .ref t∧SqT K H t [kV p.1,p.2])∧Jf K H r q
 | _,_=>False
theorem Fv(I:Inv X pins σ H s):∀(vs:List V) (its:List Value) (ps:List (Key×V)),Vals vs its→Jf X.K H vs ps→∃ps',KV ps ps'∧ps'.length=its.length∧∀(j:Nat) v p,its[j]?=some v→ps'[j]?=some p→Zn5 (Y2 X.prog X.w) s.heap v p
 | [],its,ps,r,h=>by
  cases ps with
  | cons _ _=>exact h.elim
  | nil=>
   have:=r.length
   cases its with
   | cons _ _=>simp at this
   | nil=>exact⟨[],by constructor,rfl,fun j v p h=>by simp at h⟩
 | v::vs,its,ps,r,h=>by
  cases ps with
  | nil=>exact h.elim
  | cons p ps=>
   obtain⟨⟨t,rfl,ht⟩,h⟩:=h
   cases r with
   | @cons _ u _ its ru r=>
   cases (show u=Value.ref t from ru)
   obtain⟨w2,r2,ht2,_⟩:=I.tuple ht
   obtain⟨u1,u2,rfl,s1,s2⟩:=Jk r2
   obtain⟨ps',k1,k2,k3⟩:=Fv I vs its ps r h
   refine⟨(p.1,u2)::ps',.cons ⟨rfl,s2⟩ k1,by rw[List.length_cons,List.length_cons,k2],fun j v q h1 h2=>?_⟩
   cases j with
   | zero=>
    cases h1;cases h2
    exact⟨t,u1,rfl,ht2,N7 s1⟩
   | succ j=>exact k3 j v q h1 h2
theorem Z08:∀{ps:List (Key×V)} {ps':List (Key×Value)} {kvs:List (Key×V)} {vs:List (Key×Value)},KV ps ps'→KV kvs vs→KV (ps.foldl (fun m p=>putK m p.1 p.2) kvs) (ps'.foldl (fun m p=>stored m p.1 p.2) vs)
 | _,_,_,_,.nil,h=>h
 | _,_,_,_,.cons e r,h=>by
  rw[List.foldl_cons,List.foldl_cons]
  refine Z08 r ?_
  rw[e.1]
  exact h.put _ e.2
theorem Fz:∀(ps:List (Key×V)) (kvs:List (Key×V)),(ps.foldl (fun m p=>putK m p.1 p.2) kvs).length≤kvs.length+ps.length
 | [],kvs=>Nat.le_refl _
 | p::ps,kvs=>by
  rw[List.foldl_cons,List.length_cons]
  have:=Fz ps (putK kvs p.1 p.2)
  have:=Wl kvs p.1 p.2
  omega
theorem N5{K:PySem.W.Frag}:∀{vs:List V} {ps:List (Key×V)},Jf K H vs ps→vs.length=ps.length
 | [],[],_=>rfl
 | _::_,_::_,h=>by rw[List.length_cons,List.length_cons,N5 h.2]
theorem Cs(hc:X.calm=true):Vj X (.type "dict") (fun xs H Q=>∃(a:Addr) (vs:List V) (ps:List (Key×V)),xs=[V.ref a]∧SqL X.K H a vs∧Jf X.K H vs ps∧vs.length<sizeLine∧
  ∀p,H p=none→Q (.ref p) (upd H p (.dK (ps.foldl (fun m p=>putK m p.1 p.2) [])))):=by
 intro pins s σ H xs us Q I r h
 obtain⟨a,vs,ps,rfl,hx,hp,hz,q⟩:=h
 obtain⟨u,rfl,ru⟩:=Q4 r
 cases ru
 obtain⟨its,rv,⟨o,n,ho,h1,h2,h3⟩,_⟩:=I.list hx
 obtain⟨ps',k1,k2,k3⟩:=Fv I vs its ps rv hp
 have hl:=rv.length
 have hl2:=N5 hp
 refine Zo5 (knd:=Y2 X.prog X.w) (ps:=ps') (I.ok.hd hc) ho h1 h3 h2 (by rw[List.size_toArray];omega) (by rw[List.size_toArray];exact k2) (fun j v p e1 e2=>k3 j v p (by simpa using e1) e2) fun h' tk dd keep=>?_
 have lf:=Fz ps []
 refine⟨.ref _,_,I.laid (a:=s.heap.objs.size) (o:= .dK (ps.foldl (fun m p=>putK m p.1 p.2) [])) (t':=tk) keep (Nat.le_refl _) (N3 (by rw[List.length_nil] at lf;omega) (beq_eq_false_iff_ne.mpr (Ne.symm (Nat.ne_of_lt I.big))) (Z08 k1 .nil) dd),rfl,q _ (I.hok.fresh (Nat.le_refl _))⟩
end
noncomputable def Itd(a:Addr)(o:Obj):It:=⟨fun i H=>∃kvs p,H a=some (.frz o (.dK kvs))∧kvs[i]?=some p,fun i H x H'=>H'=H∧∀kvs,H a=some (.frz o (.dK kvs))→∃p,kvs[i]?=some p∧x=kV p.1,fun i H=>∃kvs,H a=some (.frz o (.dK kvs))∧kvs.length≤i⟩
theorem Z60{P:Program}{w:World}{H:Hp}{h:Heap}{a:Addr}{o:Obj}{kvs:List (Key×V)}{es:Array DictEntry}{ep:Nat}(x:Ys P w H h a (.frz o (.dK kvs)))(hd:o.data= .dict es ep):
  ∃vs,KV kvs vs∧h.DictAt (Y2 P w) a vs ep∧vs.length=es.size:=by
 obtain⟨e,_,_,vs,rel,o',es',ep',e',h1,h2,h3,h4,h5⟩:=x
 rw[e] at e'
 cases e'
 rw[hd] at h2
 cases h2
 refine⟨vs,rel,⟨o,es,e,h1,hd,h3,h4,h5⟩,?_⟩
 have:=h4.length
 simpa using this.symm
theorem Y64{P:Program}{w:World}{k:Key}{u:Value}(h:(Y2 P w).is k u=true):L2.RelV (kV k) u:=by
 rcases Y7 h with⟨i,t,rfl,rfl⟩ | ⟨x,t,rfl,rfl⟩
 ·exact⟨t,rfl⟩
 ·exact⟨t,rfl⟩
theorem Y66{kvs:List (Key×V)}{vs:List (Key×Value)}(r:KV kvs vs):∀{i:Nat} {p:Key×V},kvs[i]?=some p→∃u,vs[i]?=some (p.1,u)∧L2.RelV p.2 u:=by
 unfold KV at r
 induction r with
 | nil=>intro i p e;simp at e
 | @cons p q ps qs h t ih=>
  intro i p e
  cases i with
  | zero=>
   cases e
   exact⟨q.2,by rw[h.1];rfl,h.2⟩
  | succ i=>exact ih (by simpa using e)
theorem Z77{P:Program}{w:World}{K:PySem.W.Frag}{tg:Expr}(a it:Addr){o:Obj}{es:Array DictEntry}{ep:Nat}(hd:o.data= .dict es ep):Turn P w K tg (Itd a o) [it] it (fun i h=>h.IsKeyIter it a i es.size ep) where
 mem:=by simp
 obj:=fun i h st b hb=>by
  have e:b=it:=by simpa using hb
  subst e
  obtain⟨o,e,c,d⟩:=st
  exact⟨o,e,fun v z=>by rw[d] at z;cases z⟩
 keep:=fun i h h' st k=>st.at fun o e=>k it (by simp) o e
 item:=by
  intro X hP hw hK hc i pins s σ H E I hf st hg
  subst hP hw hK
  obtain⟨kvs,p,hq,hx⟩:=hg
  obtain⟨vs,rel,dd,hl⟩:=Z60 (I.hok a _ hq) hd
  obtain⟨q,hx2,e2⟩:=Y66 rel hx
  obtain⟨f0,f1,f2,f3,f4,f5⟩:=hf it (by simp)
  rw[←hl] at st
  refine wpAny_pyNext_dict_item st dd hx2 fun key h' hkey st' sb=>?_
  have I1:Inv X pins σ H {s with heap:=h'}:=I.turned (t':=s.toks) (fun b o hb e=>(sb.2 b hb).trans e) f0 f1 f3 f4 f5
  obtain⟨ob,e,c,d⟩:=id st'
  rw[hl] at st'
  exact⟨key,rfl,Z99 (s:={s with heap:=h'}) e c d (by decide) ⟨kV p.1,H,I1,Y64 hkey,⟨rfl,fun ys hy=>by rw[hq] at hy;cases hy;exact⟨p,hx,rfl⟩⟩,st',fun b hb=>(hf b hb).1⟩⟩
 done:=by
  intro X hP hw hK hc i pins s σ H E I hf st hg
  subst hP hw hK
  obtain⟨kvs,hq,hx⟩:=hg
  obtain⟨vs,rel,dd,hl⟩:=Z60 (I.hok a _ hq) hd
  obtain⟨f0,f1,f2,f3,f4,f5⟩:=hf it (by simp)
  have hl2:=rel.length
  rw[←hl] at st
  exact wpAny_pyNext_dict_end (I.ok.hd hc) st dd (by simp;omega) fun h' eb=>⟨rfl,I.turned (t':=s.toks) (fun b o hb e=>eb b o hb e) f0 f1 f3 f4 f5⟩
 self:=fun _ _ _ _ _ st h=>wpAny_pyIter_keyiter st h
section
variable{X:Cx}{pins:List (Addr×Obj)}{σ:L2.St}{H:Hp}{s:Shared}{a:Addr}
theorem Zh2{kvs:List (Key×V)}(I:Inv X pins σ H s)(e:H a=some (.dK kvs)):
  ∃o es ep,o.data= .dict es ep∧s.heap.get? a=some o∧Inv X pins σ (upd H a (.frz o (.dK kvs))) s∧(∀o u,X.H₀ a≠some (.frz o u)):=by
 obtain⟨z,hd,vs,rel,dd⟩:=Jt I.hok e
 obtain⟨o,es,ep,ho,h1,h2,h3⟩:=id dd
 refine⟨o,es,ep,h2,ho,?_,fun o' u q=>?_⟩
 ·exact I.write (x:=a) (e:=a) (o:= .frz o (.dK kvs)) (h':=s.heap) (t':=s.toks) (by rw[e];exact True.intro) (.inl rfl) (fun b q _ r=>r) ⟨o,ho⟩ ⟨ho,z,hd,vs,rel,dd⟩
 ·have:=I.base.frzs a o' u q
  rw[e] at this
  cases this
theorem Zi8{kvs:List (Key×V)}{o:Obj}(I:Inv X pins σ H s)(e:H a=some (.frz o (.dK kvs)))(nf:∀o u,X.H₀ a≠some (.frz o u)):Inv X pins σ (upd H a (.dK kvs)) s where
 ok:=I.ok
 os:=I.os
 bare:=I.bare
 base:=by
  have ne:∀b,H b=none→b≠a:=fun b n z=>by subst z;rw[e] at n;cases n
  refine⟨I.base.keep,I.base.slot,fun b q h n hx=>?_,I.base.there,fun b xs h=>?_,fun b q u h=>?_,fun b ps h=>?_⟩
  ·have:=I.base.free b q h n hx
   rw[Ze (ne b this)];exact this
  ·have:=I.base.tups b xs h
   rw[Ze (fun z=>by subst z;rw[e] at this;cases this)];exact this
  ·have:=I.base.frzs b q u h
   rw[Ze (fun z=>by subst z;exact nf q u h)];exact this
  ·obtain⟨m,this⟩:=I.base.tbls b ps h
   exact⟨m,by rw[Ze (fun z=>by subst z;rw[e] at this;cases this)];exact this⟩
 loc:=I.loc
 cell:=I.cell
 free:=by rw[Ze (fun z=>by have:=I.free;rw[z,e] at this;cases this)];exact I.free
 freeC:=fun x c h=>by
  have:=I.freeC x c h
  rw[Ze (fun z=>by subst z;rw[e] at this;cases this)];exact this
 pin:=fun p hp=>by
  obtain⟨h1,h2,h3⟩:=I.pin p hp
  exact⟨h1,by rw[Ze (fun z=>by rw[z,e] at h2;cases h2)];exact h2,h3⟩
 hok:=by
  intro b u h
  by_cases hb:b=a
  ·subst hb
   rw[Zz] at h
   cases h
   obtain⟨_,q⟩:=I.hok b _ e
   exact q
  ·rw[Ze hb] at h
   refine(I.hok b u h).stay (fun c v _ r=>r) (fun c r=>?_) fun c xs r=>?_
   ·rw[Ze (fun z=>by subst z;rw[e] at r;cases r)];exact r
   ·rw[Ze (fun z=>by subst z;rw[e] at r;cases r)];exact r
 len:=I.len
end
section
variable{X:Cx}
theorem Z71{pins:List (Addr×Obj)}{σ:L2.St}{H:Hp}{s:Shared}{h':Heap}{t':Nat}{ch:List Addr}(I:Inv X pins σ H s)(k:∀c o,c∉ch→s.heap.get? c=some o→h'.get? c=some o)(f:∀b∈ch,FpOk X pins H b):Inv X pins σ H {s with heap:=h',toks:=t'}:=by
 have nn:∀c u,H c=some u→c∉ch:=by
  intro c u e z
  rw[(f c z).1] at e
  cases e
 refine I.step (ch:=ch) (g':=s.gens) (d':=s.drawn) ?_ ?_ ?_ ?_ ?_ ?_ ?_ ?_ ?_ ?_ I.bare
 ·intro c hc
  exact⟨(f c hc).2.2.2.1,(f c hc).2.1,(f c hc).2.2.2.2.1,(f c hc).2.2.2.2.2⟩
 ·intro c o _ _ hc e _;exact k c o hc e
 ·intro c o _ _ hc e _;exact⟨o.slots,k c o hc e⟩
 ·intro _ _ _ _ n;exact n
 ·intro c o hc e;exact⟨o,k c o hc e⟩
 ·intro _ _ e;exact e
 ·intro _ _ _ e;exact e
 ·intro c ps e;exact⟨#[],by rw[e];simp⟩
 ·rintro m ⟨o,es,ep,ho,r⟩
  exact⟨o,es,ep,k _ o (fun z=>(f _ z).2.1 rfl) ho,r⟩
 ·intro c u e
  refine(I.hok c u e).stay ?_ (fun _ q=>q) fun _ _ q=>q
  intro d v hd q
  rcases hd with z | z
  ·subst z;exact k d v (nn d u e) q
  ·exact k d v (nn d _ z) q
noncomputable def Itz(K:PySem.W.Frag)(a b:Addr):It:=
 ⟨fun i H=>∃xs ys x y,SqL K H a xs∧SqL K H b ys∧xs[i]?=some x∧ys[i]?=some y,
  fun i H x H'=>∃p u v,H p=none∧H'=upd H p (.tup [u,v])∧x= .ref p∧(∀xs,SqL K H a xs→xs[i]?=some u)∧∀ys,SqL K H b ys→ys[i]?=some v,
  fun i H=>∃xs ys,SqL K H a xs∧SqL K H b ys∧(xs.length≤i∨ys.length≤i)⟩
theorem Zd2{P:Program}{w:World}{K:PySem.W.Frag}{elts:List Expr}{x1:Nat}{tp:Pos}(z TI TO i1 i2 a b:Addr)(D:ZipApart z TI TO i1 i2 a b):
  Turn P w K (.Tuple elts x1 tp) (Itz K a b) [z,TI,TO,i1,i2] z (fun i h=>IsZip h z TI TO .none∧IsPair h TI (.ref i1) (.ref i2)∧(∃u v,IsPair h TO u v)∧h.IsListIter i1 a i∧h.IsListIter i2 b i) where
 mem:=by simp
 obj:=by
  rintro i h ⟨hz,hTI,⟨u,v,hTO⟩,⟨o1,e1,_,d1⟩,⟨o2,e2,_,d2⟩⟩ c hc
  simp only[List.mem_cons,List.not_mem_nil,or_false] at hc
  rcases hc with rfl | rfl | rfl | rfl | rfl
  ·exact⟨_,hz,fun v q=>by cases q⟩
  ·exact⟨_,hTI,fun v q=>by cases q⟩
  ·exact⟨_,hTO,fun v q=>by cases q⟩
  ·exact⟨_,e1,fun v q=>by rw[d1] at q;cases q⟩
  ·exact⟨_,e2,fun v q=>by rw[d2] at q;cases q⟩
 keep:=by
  rintro i h h' ⟨hz,hTI,⟨u,v,hTO⟩,h1,h2⟩ k
  exact⟨k z (by simp) _ hz,k TI (by simp) _ hTI,⟨u,v,k TO (by simp) _ hTO⟩,h1.at fun o q=>k i1 (by simp) o q,h2.at fun o q=>k i2 (by simp) o q⟩
 item:=by
  rintro X rfl rfl rfl hc i pins s σ H E I hf ⟨hz,hTI,⟨u0,v0,hTO⟩,h1,h2⟩ ⟨xs,ys,x,y,hq,hr,hx,hy⟩
  obtain⟨its,rv,p,_⟩:=I.list hq
  obtain⟨jts,rw2,p2,_⟩:=I.list hr
  obtain⟨u,hu,ru⟩:=rv.get hx
  obtain⟨v,hv,rv2⟩:=rw2.get hy
  have lt:∀c∈[z,TI,TO,i1,i2],@LT.lt Nat _ c s.heap.objs.size:=by
   intro c hc
   simp only[List.mem_cons,List.not_mem_nil,or_false] at hc
   obtain⟨o1,e1,_⟩:=id h1
   obtain⟨o2,e2,_⟩:=id h2
   rcases hc with rfl | rfl | rfl | rfl | rfl
   ·exact Heap.lt_size hz
   ·exact Heap.lt_size hTI
   ·exact Heap.lt_size hTO
   ·exact Heap.lt_size e1
   ·exact Heap.lt_size e2
  refine wpAny_pyNext_zip_item D hz hTI hTO h1 h2 p.isList p2.isList (x:=u) (y:=v) (by simpa using hu) (by simpa using hv) fun hh ho hTO2 g1 g2 hT hsz hk=>?_
  refine⟨_,rfl,wpAny_letOwnedTupleGo_zip ho fun h3 hz3 hs3=>?_⟩
  replace hs3:Heap.SameBut z hh h3:=hs3
  have nz:s.heap.objs.size≠z:=Nat.ne_of_gt (lt z (by simp))
  have hT3:h3.get? s.heap.objs.size=some {cls:= .type "tuple",data:= .seq #[u,v]}:=(hs3.2 _ nz).trans hT
  have hn:H s.heap.objs.size=none:=I.hok.fresh (Nat.le_refl _)
  have I1:Inv X pins σ (upd H s.heap.objs.size (.tup [x,y])) {s with heap:=s.heap.push {cls:= .type "tuple",data:= .seq #[u,v]},toks:=s.toks}:=
   I.laid (fun b ob q=>Heap.get?_push_of_some _ q) (Nat.le_refl _) ⟨show 2≤sizeLine by rw[sizeLine_eq];omega,[u,v],.cons ru (.cons rv2 .nil),⟨_,Heap.get?_push_size _ rfl,rfl,_,rfl⟩⟩
  have up:∀c∈[z,TI,TO,i1,i2],FpOk X pins (upd H s.heap.objs.size (.tup [x,y])) c:=by
   intro c hc
   refine⟨?_,(hf c hc).2⟩
   rw[Ze (Nat.ne_of_lt (lt c hc))]
   exact(hf c hc).1
  have I2:=Z71 (h':=h3) (t':=s.toks) I1 (fun c o hc e'=>by
   simp only[List.mem_cons,List.not_mem_nil,or_false,not_or] at hc
   rcases Qs e' with q | q
   ·exact(hs3.2 c hc.1).trans (hk c o hc.1 hc.2.2.1 hc.2.2.2.1 hc.2.2.2.2 q)
   ·subst q
    have z2:(s.heap.push {cls:= .type "tuple",data:= .seq #[u,v]}).get? s.heap.objs.size=some o:=e'
    rw[Heap.get?_push_size _ rfl] at z2
    cases z2
    exact hT3) up
  refine⟨.ref s.heap.objs.size,_,I2,rfl,⟨_,x,y,hn,rfl,rfl,fun zs hs=>by rw[I.list_inj hs hq];exact hx,fun zs hs=>by rw[I.list_inj hs hr];exact hy⟩,
   ⟨hz3,(hs3.2 TI D.TIz).trans (hk TI _ D.TIz D.TITO D.TIi1 D.TIi2 hTI),⟨_,_,(hs3.2 TO D.TOz).trans hTO2⟩,g1.at fun o q=>(hs3.2 i1 D.i1z).trans q,g2.at fun o q=>(hs3.2 i2 D.i2z).trans q⟩,fun c hc=>(up c hc).1⟩
 done:=by
  rintro X rfl rfl rfl hc i pins s σ H E I hf ⟨hz,hTI,⟨u0,v0,hTO⟩,h1,h2⟩ ⟨xs,ys,hq,hr,hl⟩
  obtain⟨its,rv,p,_⟩:=I.list hq
  obtain⟨jts,rw2,p2,_⟩:=I.list hr
  have l1:=rv.length
  have l2:=rw2.length
  refine wpAny_pyNext_zip_end (I.ok.hd hc) D hz hTI hTO h1 h2 p.isList p2.isList ?_ fun h' eb=>⟨rfl,Z71 (t':=s.toks) I (ch:=[z,TI,TO,i1,i2]) (fun c o hc e=>?_) hf⟩
  ·rcases hl with hl | hl
   ·exact .inl (by simp;omega)
   ·exact .inr (by simp;omega)
  ·simp only[List.mem_cons,List.not_mem_nil,or_false,not_or] at hc
   exact eb c o hc.1 hc.2.2.1 hc.2.2.2.1 hc.2.2.2.2 e
 self:=by
  rintro A i s Q E ⟨hz,_⟩ h
  exact wpAny_pyIter_zip hz h
def iZip(K:PySem.W.Frag)(ta:TA):TI:=fun σ H R=>ta σ H fun vs H1=>∃a b,vs=[V.ref a,V.ref b]∧(∃xs,SqL K H1 a xs)∧(∃ys,SqL K H1 b ys)∧R (Itz K a b) H1
theorem Zy5{elts:List Expr}{x1:Nat}{tp:Pos}{l:Expr}{ls:List Expr}{ta:TA}{p pos:Pos}(hg:Gl X "zip")(hm:X.mg "zip"=none)(ha:PA X (l::ls) ta)(he:starEach (l::ls) X.env=(false,eval l X.env)::starEach ls X.env)(hpl:(backTo pos (starEach ls X.env)).any (·.1)=false):
  PI X (.Tuple elts x1 tp) (.Call (.Name "zip" p) (l::ls) [] pos) (iZip X.K ta):=by
 intro pins s σ H R I h
 refine wpAny_Call_Name_kw (Sy I hg hm (u:= .type "zip") (by kernel_rfl) ?_)
 refine PyProof.Rows.callWith_type1 (thn (ha pos pins s σ H _ I h) fun us s1 zz67=>?_) he hpl
 obtain⟨vs,H1,I1,rv,a,b,ev,⟨xs,hp⟩,⟨ys,hq⟩,q⟩:=zz67
 subst ev
 obtain⟨u1,u2,rfl,e1,e2⟩:=Jk rv
 cases e1
 cases e2
 obtain⟨us,r1,pl1,z1⟩:=I1.list hp
 obtain⟨ws,r2,pl2,z2⟩:=I1.list hq
 have L1:=pl1.isList
 have L2:=pl2.isList
 have lt1:@LT.lt Nat _ a s1.heap.objs.size:=by obtain⟨o,e,_⟩:=L1;exact Heap.lt_size e
 have lt2:@LT.lt Nat _ b s1.heap.objs.size:=by obtain⟨o,e,_⟩:=L2;exact Heap.lt_size e
 refine call_zip_2 L1 L2 fun h' a1 a2 a3 a4 a5 a6 kp=>wpAny_pyIter_zip a1 ?_
 have D:ZipApart (s1.heap.objs.size+4) (s1.heap.objs.size+2) (s1.heap.objs.size+3) s1.heap.objs.size (s1.heap.objs.size+1) a b:=by
  constructor<;>(show(_:Nat)≠_)<;>omega
 refine⟨s1.heap.objs.size+4,[s1.heap.objs.size+4,s1.heap.objs.size+2,s1.heap.objs.size+3,s1.heap.objs.size,s1.heap.objs.size+1],_,_,H1,rfl,I1.kept (t':=s1.toks) kp,Zd2 _ _ _ _ _ a b D,⟨a1,a2,⟨_,_,a3⟩,a4,a5⟩,fun c hc=>?_,q⟩
 have hb:@LE.le Nat _ s1.heap.objs.size c:=by
  simp only[List.mem_cons,List.not_mem_nil,or_false] at hc
  rcases hc with rfl | rfl | rfl | rfl | rfl
  ·exact Nat.le_add_right _ _
  ·exact Nat.le_add_right _ _
  ·exact Nat.le_add_right _ _
  ·exact Nat.le_refl _
  ·exact Nat.le_add_right _ _
 exact I1.fpOk hb (I1.hok.fresh hb)
end
end L3
namespace SW
open PySem
def Rise(xs:Array Nat):Prop:=∀i k,i<k→k<xs.size→xs.getD i 0<xs.getD k 0
structure At(xs:Array Nat)(j i:Nat):Prop where
 le:i≤xs.size
 lo:∀k,k<i→xs.getD k 0<j
 hi:∀k,i≤k→k<xs.size→j≤xs.getD k 0
structure TOk(t:SetTable)(led:Bool):Prop where
 rise:Rise t.place
 dum:t.dummies=#[]
 led:t.led=led
end SW
namespace SW
open PySem PyProof.Rows
section
variable{M:Model}{prog:Program}{w:World}{A:Around}{E:Value→Shared→Prop}{s:Shared}
inductive KeysOf {K:Type} [DecidableEq K] (knd:KeyKind prog w K):List K→List (Int×Value)→Prop
 | nil:KeysOf knd [] []
 | cons {k:K} {e:Int×Value} {ks:List K} {l:List (Int×Value)} (h:knd.is k e.2=true) (r:KeysOf knd ks l):KeysOf knd (k::ks) (e::l)
variable{K:Type}[DecidableEq K]{knd:KeyKind prog w K}
theorem KeysOf.mem{ks:List K}{l:List (Int×Value)}(h:KeysOf knd ks l){k:K}:k∈ks↔∃e∈l,knd.is k e.2=true:=by
 induction h with
 | nil=>simp
 | cons h r ih=>
  rename_i k' e ks l
  rw[List.mem_cons,ih]
  constructor
  ·rintro(rfl | ⟨e,he,q⟩)
   ·exact⟨_,List.mem_cons_self,h⟩
   ·exact⟨e,List.mem_cons_of_mem _ he,q⟩
  ·rintro⟨e',he,q⟩
   rcases List.mem_cons.mp he with rfl | he
   ·exact .inl (knd.inj _ _ _ q h)
   ·exact .inr ⟨e',he,q⟩
structure SetO(knd:KeyKind prog w K)(led:Bool)(o:Obj)(ks:List K):Prop where
 ex:o.ExactSet
 dat:∃es ep t,o.data= .set es ep t∧ElemsOf knd es.toList∧KeysOf knd ks es.toList∧t.fits es.size=true∧TOk t led
 nd:ks.Nodup
 sm:ks.length<scanBound
end
section
variable{prog:Program}{w:World}{A:Around}{E:Value→Shared→Prop}{s:Shared}
section
variable{K:Type}[DecidableEq K]{knd:KeyKind prog w K}{R:Result→Shared→Prop}{I:Addr}{fp wr:List Addr}{G:Array GenState→Array GenState→Prop}{n:Nat}{P:Nat→Value→Prop}{St:Nat→Shared→Prop}
end
end
section
variable{prog:Program}{w:World}{A:Around}{E:Value→Shared→Prop}{s:Shared}{K:Type}[DecidableEq K]{knd:KeyKind prog w K}
set_option maxHeartbeats 3200000 in
end
section
variable{prog:Program}{w:World}{A:Around}{E:Value→Shared→Prop}{s:Shared}
noncomputable abbrev itO(f:Value)(i:Nat)(a:Addr)(n ep:Nat):Obj:={cls:= .type "set_iterator",dict:=none,data:= .fields #[f,rawInt i,.ref a,rawInt n,rawInt ep],slots:=#[]}
section
variable{a I:Addr}{o:Obj}{es:Array (Int×Value)}{ep:Nat}{t:SetTable}
end
end
section
variable{prog:Program}{w:World}{A:Around}{E:Value→Shared→Prop}{s:Shared}
structure ItSt(w:World)(I a T:Addr)(o:Obj)(es:Array (Int×Value))(ep:Nat)(t:SetTable)(vs:List Value)(i:Nat)(h:Heap):Prop where
 set:h.get? a=some o
 md:(w.params.followText "set-order"=true∧vs=(pickOrder (w.params.setOrder a ep) es).toList.map (·.2)∧h.get? I=some (itO (rawInt 0) i a es.size ep))
  ∨(w.params.followText "set-order"=false∧(!t.plain&&decide (es.size >1))=false∧t.led=true∧Rise t.place∧vs=es.toList.map (·.2)∧∃slot,SetTable.below t.place slot=i∧h.get? I=some (itO (rawInt slot) i a es.size ep))
  ∨(∃pl:List Nat,h.IsTuple T (pl.map fun(k:Nat)=>rawInt k).toArray∧vs=pl.map (fun k=>(es.getD k (0,.none)).2)∧(∀k∈pl,k<es.size)∧h.get? I=some (itO (.ref T) i a es.size ep))
end
end SW
namespace SW
open PySem PyProof.Rows PySem.W
section
variable{prog:Program}{w:World}{A:Around}{E:Value→Shared→Prop}{s:Shared}
theorem Cc{r:Value}{P:List Value→Prop}{R:List Value→Shared→Prop}
  (hx:∀R:Result→Shared→Prop,(∀h' tk d vs c',P vs→(∀b u,s.heap.get? b=some u→h'.get? b=some u)→h'.get? s.heap.objs.size=some {cls:= .type "list",dict:=none,data:= .seq vs.toArray c',slots:=#[]}→R (.ok (.ret (.ref s.heap.objs.size))) {s with heap:=h',toks:=tk,drawn:=d})→
   wpAny (model prog w) A.in1 (Builtin.List.listExtendWith (.ref s.heap.objs.size) r (.ref s.heap.objs.size))
    (fun fin s'=>match fin with | .done f=>R (.ok f) s' | .again c'=>c'.quiet=true∧codeAny (model prog w) A c' R s') (fun e s'=>R (.error e) s') {s with heap:=s.heap.push {cls:= .type "list",data:= .seq ([]:List Value).toArray}})
  (h:∀h' tk d vs,P vs→(∀b u,s.heap.get? b=some u→h'.get? b=some u)→s.heap.objs.size≤h'.objs.size→R vs {s with heap:=h',toks:=tk,drawn:=d}):
  wpAny (model prog w) A (collect r) R E s:=by
 unfold collect
 refine wpAny_bind (wpAny_runValue (codeAny_builtin entry_proto_collect' ?_))
 rw[Around.under_plainId PySem.F.plain_proto_collect _]
 show wpAny _ A.in1 (newList [] >>=fun l=>again (.builtin "list.__iadd__" ⟨[l,r],[]⟩)) _ _ s
 refine wpAny_bind (wpAny_newObj_type (wpAny_pure ⟨plainId_quiet PySem.F.plain_list_iadd _,codeAny_builtin entry_list_iadd' ?_⟩))
 rw[Around.under_plainId PySem.F.plain_list_iadd _]
 have fin:∀s2:Shared,(∃h' tk d,∃vs:List Value,∃c',P vs∧(∀b u,s.heap.get? b=some u→h'.get? b=some u)∧h'.get? s.heap.objs.size=some {cls:= .type "list",dict:=none,data:= .seq vs.toArray c',slots:=#[]}∧s2={s with heap:=h',toks:=tk,drawn:=d})→wpAny (model prog w) A (load s.heap.objs.size >>=fun o=>match o.data with | .seq xs _=>pure xs.toList | _=>unsupported "internal:collect") R E s2:=by
  rintro s2 ⟨h',tk,d,vs,c',pv,k,g,rfl⟩
  exact wpAny_bind (wpAny_load g (wpAny_pure (h h' tk d vs pv k (Nat.le_of_lt (Heap.lt_size g)))))
 have key:=hx (fun q s2=>q= .ok (.ret (.ref s.heap.objs.size))∧∃h' tk d,∃vs:List Value,∃c',P vs∧(∀b u,s.heap.get? b=some u→h'.get? b=some u)∧h'.get? s.heap.objs.size=some {cls:= .type "list",dict:=none,data:= .seq vs.toArray c',slots:=#[]}∧s2={s with heap:=h',toks:=tk,drawn:=d})
  (fun h' tk d vs c' pv k g=>⟨rfl,h',tk,d,vs,c',pv,k,g,rfl⟩)
 show wpAny _ A.in1 (Builtin.List.listExtendWith (.ref s.heap.objs.size) r (.ref s.heap.objs.size)) _ _ _
 refine wpAny_mono key (fun f s2 x=>?_) fun e s2 x=>by cases x.1
 cases f with
 | done f=>
  obtain⟨e,x⟩:=x
  cases e
  exact fin s2 x
 | again c1=>
  refine⟨x.1,codeAny_mono x.2 fun q s3 y=>?_⟩
  obtain⟨rfl,y⟩:=y
  exact fin s3 y
theorem Z78{h:Heap}{a:Addr}{vs:List Value}{n:Nat}(ho:h.get? a=some (seqObj "list" vs.toArray n))(out:Array Value):(∃c,(sortedHeap h a vs out).get? a=some (seqObj "list" out c))∧∀b u,b≠a→h.get? b=some u→(sortedHeap h a vs out).get? b=some u:=by
 have la:=Heap.lt_size ho
 constructor
 ·have h1:=get?_update_seq ho (fun _=>(#[]:Array Value))
  have h2:(((h.update a (Obj.mapSeq fun _=>#[])).push (seqObj "tuple" vs.toArray 0)).push (seqObj "list" #[] 0)).get? a=_:=Heap.get?_push_of_some _ (Heap.get?_push_of_some _ h1)
  exact⟨_,get?_update_seq h2 (fun _=>out)⟩
 ·intro b u hb e
  unfold sortedHeap
  rw[Heap.get?_update_other _ _ (Ne.symm hb)]
  refine Heap.get?_push_of_some _ (Heap.get?_push_of_some _ ?_)
  rw[Heap.get?_update_other _ _ (Ne.symm hb)]
  exact e
end
end SW
namespace SW
open PySem PyProof.Rows
end SW
namespace L3
open PySem PySem.Spec PyProof.Rows L2
section
variable{X:Cx}{pins:List (Addr×Obj)}{σ:L2.St}{H:Hp}{s:Shared}
theorem drew(I:Inv X pins σ H s)(d:Drawn):Inv X pins σ H {s with drawn:=d}:=⟨I.ok,I.os,I.bare,I.base,I.loc,I.cell,I.free,I.freeC,I.pin,I.hok,I.len⟩
end
end L3
namespace SW
open PySem PySem.Spec PyProof.Rows
section
variable{prog:Program}{w:World}{A:Around}{E:Value→Shared→Prop}{s:Shared}
theorem Gi{r:Value}{P:List Value→List Str→Prop}{Q:Value→Shared→Prop}
  (hx:∀R:Result→Shared→Prop,(∀h' tk d vs c',(∃ns,P vs ns)→(∀b u,s.heap.get? b=some u→h'.get? b=some u)→h'.get? s.heap.objs.size=some {cls:= .type "list",dict:=none,data:= .seq vs.toArray c',slots:=#[]}→R (.ok (.ret (.ref s.heap.objs.size))) {s with heap:=h',toks:=tk,drawn:=d})→
   wpAny (model prog w) A.in1.in1 (Builtin.List.listExtendWith (.ref s.heap.objs.size) r (.ref s.heap.objs.size))
    (fun fin s'=>match fin with | .done f=>R (.ok f) s' | .again c'=>c'.quiet=true∧codeAny (model prog w) A.in1 c' R s') (fun e s'=>R (.error e) s') {s with heap:=s.heap.push {cls:= .type "list",data:= .seq ([]:List Value).toArray}})
  (hP:∀vs ns,P vs ns→StrsAre vs ns∧vs.length<64)
  (h:∀h' tk d D c (out:List Value) ns ns' vs,(∀b u,s.heap.get? b=some u→h'.get? b=some u)→s.heap.objs.size≤D→h'.get? D=some {cls:= .type "list",dict:=none,data:= .seq out.toArray c,slots:=#[]}→P vs ns→StrsAre out ns'→ns'.Perm ns→sortedS ns'=true→Q (.ref D) {s with heap:=h',toks:=tk,drawn:=d}):
  wpAny (model prog w) A (call (.builtin "sorted") [r]) Q E s:=by
 refine Calls.call_function_entry kind_sorted plain_sorted entry_sorted (args_sorted1 _) ?_
 unfold Builtin.«sorted»
 refine wpAny_bind (m:=checkCount "sorted" 1 1 _) (wpAny_pure ?_)
 refine wpAny_bind (Cc hx fun h1 tk d vs p0 k1 hs=>?_)
 obtain⟨ns,p1⟩:=p0
 obtain⟨i1,l1⟩:=hP vs ns p1
 refine wpAny_bind (wpAny_newList ?_ (by rw[sizeLine_eq];omega))
 have g1:(h1.push (seqObj "list" vs.toArray 0)).get? h1.objs.size=some (seqObj "list" vs.toArray 0):=Heap.get?_push_size _ rfl
 refine wpAny_bind (wpAny_holding (wpAny_call_entry slot_list_sort ⟨_,g1,rfl⟩ entry_list_sort (list_sort_treeK strKind_oneLt g1 i1.keysOf (fun v₁ v₂ rest e=>keyKind_strs (by rw[←e];exact i1)) l1 fun st' a1 a2=>⟨_,rfl,?_⟩) (args_list_sort _)))
 obtain⟨ns',b1,b2,b3⟩:=sorted_out_str i1 a1 a2
 generalize (arrOf st').map (·.2)=out at b1
 obtain⟨⟨c,g2⟩,k2⟩:=Z78 g1 out
 have ea:out=out.toList.toArray:=by simp
 refine wpAny_pure ⟨_,rfl,h _ tk d h1.objs.size c out.toList ns ns' vs (fun b u e=>k2 b u (Nat.ne_of_lt (Heap.lt_size (k1 b u e))) (Heap.get?_push_of_some _ (k1 b u e))) hs ?_ p1 b1 b2 b3⟩
 rw[←ea]
 exact g2
end
theorem Zj2:∀a b:List Nat,ltCps a b=false→ltCps b a=false→a=b
 | [],[],_,_=>rfl
 | [],y::b,h,_=>by simp[ltCps] at h
 | x::a,[],_,h=>by simp[ltCps] at h
 | x::a,y::b,h1,h2=>by
  simp only[ltCps,Bool.or_eq_false_iff,Bool.and_eq_false_iff,decide_eq_false_iff_not,beq_eq_false_iff_ne] at h1 h2
  have e:x=y:=by omega
  subst e
  rw[Zj2 a b (h1.2.resolve_left (fun z=>z rfl)) (h2.2.resolve_left (fun z=>z rfl))]
theorem Zx4:∀a b c:List Nat,ltCps b a=false→ltCps c b=false→ltCps c a=false
 | [],b,c,h1,h2=>by
  cases c with
  | nil=>rfl
  | cons z c=>simp[ltCps]
 | x::a,[],c,h1,h2=>by simp[ltCps] at h1
 | x::a,y::b,[],h1,h2=>by simp[ltCps] at h2
 | x::a,y::b,z::c,h1,h2=>by
  simp only[ltCps,Bool.or_eq_false_iff,Bool.and_eq_false_iff,decide_eq_false_iff_not,beq_eq_false_iff_ne] at h1 h2 ⊢
  refine⟨by omega,?_⟩
  by_cases e:z=x
  ·right
   have e1:y=x:=by omega
   have e2:z=y:=by omega
   exact Zx4 a b c (h1.2.resolve_left (fun q=>q e1)) (h2.2.resolve_left (fun q=>q e2))
  ·exact .inl e
theorem Fy:∀(p:Str) (l:List Str),risingS p l=true→(p::l).Pairwise (fun a b=>ltCps b.cps.toList a.cps.toList=false)
 | p,[],_=>List.pairwise_singleton _ _
 | p,x::r,h=>by
  have h':(!ltCps x.cps.toList p.cps.toList&&risingS x r)=true:=h
  simp only[Bool.and_eq_true,Bool.not_eq_true'] at h'
  have ih:=Fy x r h'.2
  refine .cons (fun c hc=>?_) ih
  rcases List.mem_cons.mp hc with rfl | hc
  ·exact h'.1
  ·exact Zx4 _ _ _ h'.1 ((List.pairwise_cons.mp ih).1 c hc)
theorem Nb(l:List Str)(h:sortedS l=true):l.Pairwise (fun a b=>ltCps b.cps.toList a.cps.toList=false):=by
 cases l with
 | nil=>exact .nil
 | cons x r=>exact Fy x r h
theorem Z13{a b:List Str}(ha:sortedS a=true)(hb:sortedS b=true)(p:a.Perm b):a=b:=
 List.Perm.eq_of_pairwise (le:=fun a b:Str=>ltCps b.cps.toList a.cps.toList=false) (fun x y _ _ h1 h2=>by
  have:=Zj2 _ _ h2 h1
  cases x;cases y
  simp only[Str.mk.injEq]
  exact Array.toList_inj.mp this) (Nb a ha) (Nb b hb) p
end SW
namespace L3
open PySem PySem.Spec PyProof.Rows L2
section
variable{X:Cx}{pins:List (Addr×Obj)}{σ:L2.St}{H:Hp}{s:Shared}
theorem Ni:∀{vs:List Value} {ns:List Str},StrsAre vs ns→Vals (ns.map V.str) vs
 | _,_,.nil=> .nil
 | _,_,.cons n t r=> .cons ⟨t,rfl⟩ (Ni r)
theorem Z97:∀{vs:List Value} {ns:List Str},vs.length=ns.length→(∀(j:Nat) v,vs[j]?=some v→∃n t,ns[j]?=some n∧v=Value.str n t)→StrsAre vs ns
 | [],[],_,_=> .nil
 | v::vs,n::ns,hl,h=>by
  obtain⟨m,t,e1,e2⟩:=h 0 v rfl
  cases e1
  rw[e2]
  exact .cons _ _ (Z97 (by simpa using hl) fun j v e=>by simpa using h (j+1) v (by simpa using e))
theorem Nm(hc:X.calm=true):Vj X (.builtin "sorted") (fun xs H Q=>∃(p:Addr) (kvs:List (Key×V)) (ns:List Str),xs=[V.ref p]∧H p=some (.dK kvs)∧kvs.map (·.1)=ns.map Sum.inr∧ns.length<64∧∀q (ms:List Str),H q=none→ms.Perm ns→sortedS ms=true→Q (.ref q) (upd H q (.lst (ms.map V.str)))):=by
 intro pins s σ H xs us Q I r h
 obtain⟨p,kvs,ns,rfl,hx,hkn,hz,q⟩:=h
 obtain⟨u,rfl,ru⟩:=Q4 r
 cases ru
 obtain⟨lz,lo,vs,kv,hD⟩:=I.hok p _ hx
 obtain⟨ep,hat⟩:=hD.dictAt
 have hkl:∀{a:List (Key×V)} {b:List (Key×Value)},KV a b→b.map (·.1)=a.map (·.1):=by
  intro a b h
  induction h with
  | nil=>rfl
  | cons e r ih=>rw[List.map_cons,List.map_cons,ih,e.1]
 have hv:vs.map (·.1)=ns.map Sum.inr:=(hkl kv).trans hkn
 have hl:vs.length=ns.length:=by have:=congrArg List.length hv;rw[List.length_map,List.length_map] at this;exact this
 have la:p<s.heap.objs.size:=hat.lt_size
 refine SW.Gi (P:=fun us ns'=>ns'=ns∧StrsAre us ns') (fun R hR=>?_) (fun us ns' ⟨h1,h2⟩=>⟨h2,?_⟩) fun h' tk d D c out n1 n2 us k lD g ⟨a1,a2⟩ b1 b2 b3=>?_
 ·have hS0:(s.heap.push {cls:= .type "list",data:= .seq ([]:List Value).toArray}).get? s.heap.objs.size=some {cls:= .type "list",data:= .seq #[] 0}:=Heap.get?_push_size _ rfl
  refine PySem.W.kdl_extend (A:=X.A.in1) (s:={s with heap:=s.heap.push {cls:= .type "list",data:= .seq ([]:List Value).toArray}}) (PySem.W.kdl_dict (knd:=Y2 X.prog X.w) (kvs:=vs) (ep:=ep) lo) (I.ok.hd hc) (hat.push _) s.heap.objs.size (Nat.ne_of_gt la) (Nat.ne_of_gt la) (.ref s.heap.objs.size) 0 hS0 (fun h' tk acc c' k g hacc=>?_) (by rw[hl,sizeLine_eq];omega)
  have ha:acc=acc.toList.toArray:=by simp
  rw[ha] at g
  refine hR h' tk s.drawn acc.toList c' ⟨ns,rfl,?_⟩ (fun b u e=>k b u (Nat.ne_of_lt (Heap.lt_size e)) (Heap.get?_push_of_some _ e)) g
  have hlen:acc.toList.length=ns.length:=by rw[Array.length_toList,hacc.1,hl]
  refine Z97 hlen fun j v e=>?_
  obtain⟨k,x,e1,e2⟩:=hacc.2 j v (by rw[←Array.getElem?_toList];exact e)
  have e3:(vs.map (·.1))[j]?=some k:=by rw[List.getElem?_map,e1];rfl
  rw[hv,List.getElem?_map] at e3
  obtain⟨n,e4,e5⟩:=Option.map_eq_some_iff.mp e3
  subst e5
  rcases Y7 (k:=Sum.inr n) (v:=v) e2 with⟨i,t,z,hv⟩ | ⟨x,t,z,hv⟩
  ·cases z
  ·cases z;exact⟨n,t,e4,hv⟩
 ·rw[h2.length,h1];exact hz
 ·subst a1
  refine⟨.ref D,_,drew (I.laid (a:=D) (o:= .lst (n2.map V.str)) (t':=tk) k lD ⟨?_,out,c,Ni b1,g⟩) d,rfl,q D n2 (I.hok.fresh lD) b2 b3⟩
  rw[List.length_map,b2.length_eq,sizeLine_eq];omega
end
end L3
namespace U
open PySem PySem.Spec PyProof.Rows L2 L3
inductive D where
 | non | bl (b:Bool) | int (i:Int) | str (x:Str) | tup (ds:List D) | ref (n:Nat) | ty (n:String) | gtup (ds:List D) | cls (a:Addr) | exn (e C dx:Addr) (row:D)
inductive Cell where
 | lst (ds:List D) | frz (ds:List D) | dct (kvs:List (Key×D)) | fdc (kvs:List (Key×D))
noncomputable abbrev Z0:=List Cell
noncomputable abbrev DEnv:=List (Option D)
abbrev DK:=D→Z0→Prop
abbrev DX:=Addr→D→Z0→Prop
abbrev DE:=DEnv→Z0→DK→Prop
abbrev DA:=DEnv→Z0→(List D→Z0→Prop)→Prop
abbrev DT:=DEnv→Z0→(Bool→Z0→Prop)→Prop
abbrev DSp:=List D→Z0→DK→DX→Prop
structure DEnds where
 nx:DEnv→Z0→Prop
 rt:DK
 bk:DEnv→Z0→Prop:=fun _ _=>False
 ct:DEnv→Z0→Prop:=fun _ _=>False
abbrev DS:=DEnds→DEnv→Z0→Prop
structure Vw where
 K:PySem.W.Frag
 H:Hp
 μ:Nat→Addr
 n:Nat
mutual
def RD(w:Vw):D→V→Prop
 | .non,v=>v= .non
 | .bl b,v=>v= .bl b
 | .int i,v=>v= .int i
 | .str x,v=>v= .str x
 | .tup ds,v=>∃a vs,v= .ref a∧w.H a=some (.tup vs)∧RDs w ds vs
 | .ref i,v=>i<w.n∧v= .ref (w.μ i)
 | .ty n,v=>v= .ty n
 | .gtup ds,v=>∃a vs,v= .ref a∧SqT w.K w.H a vs∧RDs w ds vs
 | .cls a,v=>v= .ref a
 | .exn e C dx row,v=>v= .ref e∧w.H e=some (XO e (.ref C) (some dx))∧∃r,w.H dx=some (.xd [("row",r)])∧RD w row r
def RDs(w:Vw):List D→List V→Prop
 | [],vs=>vs=[]
 | d::ds,vs=>∃v r,vs=v::r∧RD w d v∧RDs w ds r
end
def RKV(w:Vw):List (Key×D)→List (Key×V)→Prop
 | [],vs=>vs=[]
 |(k,d)::ds,vs=>∃v r,vs=(k,v)::r∧RD w d v∧RKV w ds r
def SqF(K:PySem.W.Frag)(H:Hp)(a:Addr)(vs:List V):Prop:=(∃o,H a=some (.frz o (.lst vs)))∨SqL K (fun _=>none) a vs
noncomputable def Cell.mut:Cell→Bool
 | .frz _=>false
 | _=>true
def Pm(w:Vw):Cell→Addr→Prop
 | .lst ds,a=>∃vs,w.H a=some (.lst vs)∧RDs w ds vs
 | .frz ds,a=>∃vs,SqF w.K w.H a vs∧RDs w ds vs
 | .dct kvs,a=>∃vs,w.H a=some (.dK vs)∧RKV w kvs vs
 | .fdc kvs,a=>∃o vs,w.H a=some (.frz o (.dK vs))∧RKV w kvs vs
structure RS(w:Vw)(M:Z0):Prop where
 len:w.n=M.length
 inj:∀(i j:Nat) (ci cj:Cell),M[i]?=some ci→M[j]?=some cj→ci.mut=true→cj.mut=true→w.μ i=w.μ j→i=j
 cell:∀i c,M[i]?=some c→Pm w c (w.μ i)
noncomputable def Imm:HO→Bool
 | .tup _ | .xd _ | .ext _ | .frz _ _=>true
 | _=>false
structure Ext(w w':Vw):Prop where
 K:w'.K=w.K
 n:w.n≤w'.n
 μ:∀i,i<w.n→w'.μ i=w.μ i
 imm:∀a o,w.H a=some o→Imm o=true→w'.H a=some o
theorem Ext.refl(w:Vw):Ext w w:=⟨rfl,Nat.le_refl _,fun _ _=>rfl,fun _ _ h _=>h⟩
theorem Ext.trans{a b c:Vw}(x:Ext a b)(y:Ext b c):Ext a c:=
 ⟨y.K.trans x.K,Nat.le_trans x.n y.n,fun i h=>(y.μ i (Nat.lt_of_lt_of_le h x.n)).trans (x.μ i h),fun p o h q=>y.imm p o (x.imm p o h q) q⟩
theorem Ext.sqT{w w':Vw}(x:Ext w w'){a:Addr}{vs:List V}(h:SqT w.K w.H a vs):SqT w'.K w'.H a vs:=by
 rw[x.K]
 rcases h with(h | ⟨o,h⟩) | h
 ·exact .inl (.inl (x.imm _ _ h rfl))
 ·exact .inl (.inr ⟨o,x.imm _ _ h rfl⟩)
 ·exact .inr h
mutual
theorem RD.ext{w w':Vw}(x:Ext w w'):∀{d:D} {v:V},RD w d v→RD w' d v
 | .non,v,h=>by unfold RD at *;exact h
 | .bl b,v,h=>by unfold RD at *;exact h
 | .int i,v,h=>by unfold RD at *;exact h
 | .str _,v,h=>by unfold RD at *;exact h
 | .tup ds,v,h=>by
  unfold RD at *
  obtain⟨a,vs,e,q,r⟩:=h
  exact⟨a,vs,e,x.imm _ _ q rfl,RDs.ext x r⟩
 | .ref i,v,h=>by
  unfold RD at *
  exact⟨Nat.lt_of_lt_of_le h.1 x.n,by rw[x.μ i h.1];exact h.2⟩
 | .ty n,v,h=>by unfold RD at *;exact h
 | .gtup ds,v,h=>by
  unfold RD at *
  obtain⟨a,vs,e,q,r⟩:=h
  exact⟨a,vs,e,x.sqT q,RDs.ext x r⟩
 | .cls a,v,h=>by unfold RD at *;exact h
 | .exn e C dx row,v,h=>by
  unfold RD at *
  obtain⟨e1,q,r,q2,q3⟩:=h
  exact⟨e1,x.imm _ _ q rfl,r,x.imm _ _ q2 rfl,RD.ext x q3⟩
theorem RDs.ext{w w':Vw}(x:Ext w w'):∀{ds:List D} {vs:List V},RDs w ds vs→RDs w' ds vs
 | [],vs,h=>by unfold RDs at *;exact h
 | d::ds,vs,h=>by
  unfold RDs at *
  obtain⟨v,r,e,h1,h2⟩:=h
  exact⟨v,r,e,RD.ext x h1,RDs.ext x h2⟩
end
theorem RKV.ext{w w':Vw}(x:Ext w w'):∀{ds:List (Key×D)} {vs:List (Key×V)},RKV w ds vs→RKV w' ds vs
 | [],vs,h=>by unfold RKV at *;exact h
 |(k,d)::ds,vs,h=>by
  unfold RKV at *
  obtain⟨v,r,e,h1,h2⟩:=h
  exact⟨v,r,e,RD.ext x h1,RKV.ext x h2⟩
structure Ext0(w w':Vw):Prop where
 K:w'.K=w.K
 n:w.n≤w'.n
 μ:∀i,i<w.n→w'.μ i=w.μ i
 imm:∀a o,w.H a=some o→Imm o=true→(∀ob kvs,o≠ .frz ob (.dK kvs))→w'.H a=some o
mutual
theorem RD.ext0{w w':Vw}(x:Ext0 w w'):∀{d:D} {v:V},RD w d v→RD w' d v
 | .non,v,h=>by unfold RD at *;exact h
 | .bl b,v,h=>by unfold RD at *;exact h
 | .int i,v,h=>by unfold RD at *;exact h
 | .str _,v,h=>by unfold RD at *;exact h
 | .tup ds,v,h=>by
  unfold RD at *
  obtain⟨a,vs,e,q,r⟩:=h
  exact⟨a,vs,e,x.imm _ _ q rfl (fun _ _ z=>by cases z),RDs.ext0 x r⟩
 | .ref i,v,h=>by
  unfold RD at *
  exact⟨Nat.lt_of_lt_of_le h.1 x.n,by rw[x.μ i h.1];exact h.2⟩
 | .ty n,v,h=>by unfold RD at *;exact h
 | .gtup ds,v,h=>by
  unfold RD at *
  obtain⟨a,vs,e,q,r⟩:=h
  refine⟨a,vs,e,?_,RDs.ext0 x r⟩
  rw[x.K]
  rcases q with(h | ⟨o,h⟩) | h
  ·exact .inl (.inl (x.imm _ _ h rfl (fun _ _ z=>by cases z)))
  ·exact .inl (.inr ⟨o,x.imm _ _ h rfl (fun _ _ z=>by cases z)⟩)
  ·exact .inr h
 | .cls a,v,h=>by unfold RD at *;exact h
 | .exn e C dx row,v,h=>by
  unfold RD at *
  obtain⟨e1,q,r,q2,q3⟩:=h
  exact⟨e1,x.imm _ _ q rfl (fun _ _ z=>by cases z),r,x.imm _ _ q2 rfl (fun _ _ z=>by cases z),RD.ext0 x q3⟩
theorem RDs.ext0{w w':Vw}(x:Ext0 w w'):∀{ds:List D} {vs:List V},RDs w ds vs→RDs w' ds vs
 | [],vs,h=>by unfold RDs at *;exact h
 | d::ds,vs,h=>by
  unfold RDs at *
  obtain⟨v,r,e,h1,h2⟩:=h
  exact⟨v,r,e,RD.ext0 x h1,RDs.ext0 x h2⟩
end
theorem RKV.ext0{w w':Vw}(x:Ext0 w w'):∀{ds:List (Key×D)} {vs:List (Key×V)},RKV w ds vs→RKV w' ds vs
 | [],vs,h=>by unfold RKV at *;exact h
 |(k,d)::ds,vs,h=>by
  unfold RKV at *
  obtain⟨v,r,e,h1,h2⟩:=h
  exact⟨v,r,e,RD.ext0 x h1,RKV.ext0 x h2⟩
theorem RDs.nil(w:Vw):RDs w [] []:=by unfold RDs;rfl
theorem RDs.cons{w:Vw}{d:D}{v:V}{ds:List D}{vs:List V}(h:RD w d v)(r:RDs w ds vs):RDs w (d::ds) (v::vs):=by unfold RDs;exact⟨v,vs,rfl,h,r⟩
theorem RDs.length{w:Vw}:∀{ds:List D} {vs:List V},RDs w ds vs→vs.length=ds.length
 | [],vs,h=>by unfold RDs at h;subst h;rfl
 | d::ds,vs,h=>by
  unfold RDs at h
  obtain⟨v,r,rfl,_,h2⟩:=h
  simp[h2.length]
theorem RDs.get{w:Vw}:∀{ds:List D} {vs:List V} {i:Nat} {d:D},RDs w ds vs→ds[i]?=some d→∃v,vs[i]?=some v∧RD w d v
 | [],vs,i,d,h,e=>by simp at e
 | d::ds,vs,i,d',h,e=>by
  unfold RDs at h
  obtain⟨v,r,rfl,h1,h2⟩:=h
  cases i with
  | zero=>simp at e;subst e;exact⟨v,rfl,h1⟩
  | succ i=>simpa using RDs.get h2 (by simpa using e)
theorem RDs.append{w:Vw}:∀{ds es:List D} {vs us:List V},RDs w ds vs→RDs w es us→RDs w (ds++es) (vs++us)
 | [],es,vs,us,h,g=>by unfold RDs at h;subst h;exact g
 | d::ds,es,vs,us,h,g=>by
  unfold RDs at h
  obtain⟨v,r,rfl,h1,h2⟩:=h
  exact RDs.cons h1 (RDs.append h2 g)
theorem RDs.take{w:Vw}:∀{ds:List D} {vs:List V} (n:Nat),RDs w ds vs→RDs w (ds.take n) (vs.take n)
 | _,_,0,_=>by simp[RDs.nil]
 | [],vs,n+1,h=>by unfold RDs at h;subst h;simp[RDs.nil]
 | d::ds,vs,n+1,h=>by
  unfold RDs at h
  obtain⟨v,r,rfl,h1,h2⟩:=h
  exact RDs.cons h1 (RDs.take n h2)
theorem RDs.drop{w:Vw}:∀{ds:List D} {vs:List V} (n:Nat),RDs w ds vs→RDs w (ds.drop n) (vs.drop n)
 | _,_,0,h=>by simpa using h
 | [],vs,n+1,h=>by unfold RDs at h;subst h;simp[RDs.nil]
 | d::ds,vs,n+1,h=>by
  unfold RDs at h
  obtain⟨v,r,rfl,h1,h2⟩:=h
  simpa using RDs.drop n h2
theorem RDs.set{w:Vw}{d:D}{v:V}(q:RD w d v):∀{ds:List D} {vs:List V} (n:Nat),RDs w ds vs→RDs w (ds.set n d) (vs.set n v)
 | [],vs,n,h=>by unfold RDs at h;subst h;simp[RDs.nil]
 | d::ds,vs,0,h=>by
  unfold RDs at h
  obtain⟨v,r,rfl,h1,h2⟩:=h
  exact RDs.cons q h2
 | d::ds,vs,n+1,h=>by
  unfold RDs at h
  obtain⟨v,r,rfl,h1,h2⟩:=h
  exact RDs.cons h1 (RDs.set q n h2)
theorem RDs.reverse{w:Vw}:∀{ds:List D} {vs:List V},RDs w ds vs→RDs w ds.reverse vs.reverse
 | [],vs,h=>by unfold RDs at h;subst h;simp[RDs.nil]
 | d::ds,vs,h=>by
  unfold RDs at h
  obtain⟨v,r,rfl,h1,h2⟩:=h
  simp only[List.reverse_cons]
  exact(RDs.reverse h2).append (RDs.cons h1 (RDs.nil w))
noncomputable def Vw.push(w:Vw)(a:Addr)(o:HO):Vw:=⟨w.K,upd w.H a o,fun i=>if i=w.n then a else w.μ i,w.n+1⟩
noncomputable def Vw.alloc(w:Vw)(a:Addr)(o:HO):Vw:={w with H:=upd w.H a o}
theorem V0{w:Vw}{a:Addr}{o:HO}(h:w.H a=none):Ext w (w.alloc a o):=
 ⟨rfl,Nat.le_refl _,fun _ _=>rfl,fun b u q _=>by
  show upd w.H a o b=some u
  rw[Ze (by rintro rfl;rw[h] at q;cases q)];exact q⟩
theorem Vu{w:Vw}{a:Addr}{o:HO}(h:w.H a=none):Ext w (w.push a o):=
 ⟨rfl,Nat.le_succ _,fun i hi=>by show(if i=w.n then a else w.μ i)=_;rw[if_neg (by omega)],fun b u q _=>by
  show upd w.H a o b=some u
  rw[Ze (by rintro rfl;rw[h] at q;cases q)];exact q⟩
theorem SqF.stay{w w':Vw}{a:Addr}{vs:List V}(x:Ext w w')(h:SqF w.K w.H a vs):SqF w'.K w'.H a vs:=by
 rcases h with⟨o,h⟩ | h
 ·exact .inl ⟨o,x.imm _ _ h rfl⟩
 ·rw[x.K];exact .inr h
theorem SqF.sq{K:PySem.W.Frag}{H:Hp}{a:Addr}{vs:List V}(h:SqF K H a vs):SqL K H a vs:=by
 rcases h with⟨o,h⟩ | (h | ⟨o,h⟩) | h
 ·exact .inl (.inr ⟨o,h⟩)
 ·cases h
 ·cases h
 ·exact .inr h
theorem Pm.some{w:Vw}{c:Cell}{a:Addr}(hm:c.mut=true)(h:Pm w c a):∃o,w.H a=some o:=by
 cases c with
 | lst ds=>obtain⟨vs,q,_⟩:=h;exact⟨_,q⟩
 | frz ds=>cases hm
 | dct ds=>obtain⟨vs,q,_⟩:=h;exact⟨_,q⟩
 | fdc ds=>obtain⟨o,vs,q,_⟩:=h;exact⟨_,q⟩
theorem Pm.stay{w w':Vw}{c:Cell}{a:Addr}(x:Ext w w')(h:Pm w c a)(k:c.mut=true→w'.H a=w.H a):Pm w' c a:=by
 cases c with
 | lst ds=>obtain⟨vs,q,r⟩:=h;exact⟨vs,(k rfl).trans q,r.ext x⟩
 | frz ds=>obtain⟨vs,q,r⟩:=h;exact⟨vs,q.stay x,r.ext x⟩
 | dct ds=>obtain⟨vs,q,r⟩:=h;exact⟨vs,(k rfl).trans q,r.ext x⟩
 | fdc ds=>obtain⟨o,vs,q,r⟩:=h;exact⟨o,vs,(k rfl).trans q,r.ext x⟩
theorem RS.alloc{w:Vw}{M:Z0}{a:Addr}{o:HO}(R:RS w M)(h:w.H a=none):RS (w.alloc a o) M:=
 ⟨R.len,R.inj,fun i c e=>by
  have q:=R.cell i c e
  refine q.stay (V0 h) fun hm=>?_
  obtain⟨u,hu⟩:=q.some hm
  exact Ze (fun z=>by have z:w.μ i=a:=z;rw[z,h] at hu;cases hu)⟩
theorem RS.push{w:Vw}{M:Z0}{a:Addr}{o:HO}{c:Cell}(R:RS w M)(h:w.H a=none)(new:Pm (w.push a o) c a):RS (w.push a o) (M++[c]):=by
 have old:∀(i:Nat) (ci:Cell),(M++[c])[i]?=some ci→(i=w.n∧ci=c)∨(i<w.n∧M[i]?=some ci):=fun i ci e=>by
  by_cases hi:i<M.length
  ·rw[List.getElem?_append_left hi] at e
   exact .inr ⟨by rw[R.len];exact hi,e⟩
  ·rw[List.getElem?_append_right (by omega)] at e
   have hz:i - M.length=0:=by
    have:=(List.getElem?_eq_some_iff.mp e).1
    simp at this
    omega
   rw[hz] at e
   simp at e
   exact .inl ⟨by rw[R.len];omega,e.symm⟩
 have no:∀(i:Nat) (ci:Cell),M[i]?=some ci→ci.mut=true→w.μ i≠a:=fun i ci e hm z=>by
  obtain⟨u,hu⟩:=(R.cell i ci e).some hm
  rw[z,h] at hu;cases hu
 refine⟨by show w.n+1=_;rw[R.len];simp,fun i j ci cj ei ej mi mj e=>?_,fun i c' e=>?_⟩
 ·change (if i=w.n then a else w.μ i)=(if j=w.n then a else w.μ j) at e
  rcases old i ci ei with⟨h1,_⟩ | ⟨h1,h1'⟩
  ·rcases old j cj ej with⟨h2,_⟩ | ⟨h2,h2'⟩
   ·omega
   ·rw[if_pos h1,if_neg (by omega)] at e
    exact absurd e.symm (no j cj h2' mj)
  ·rcases old j cj ej with⟨h2,_⟩ | ⟨h2,h2'⟩
   ·rw[if_neg (by omega),if_pos h2] at e
    exact absurd e (no i ci h1' mi)
   ·rw[if_neg (by omega),if_neg (by omega)] at e
    exact R.inj i j ci cj h1' h2' mi mj e
 ·show Pm _ c' (if i=w.n then a else w.μ i)
  rcases old i c' e with⟨h1,rfl⟩ | ⟨h1,h1'⟩
  ·rw[if_pos h1];exact new
  ·rw[if_neg (by omega)]
   have q:=R.cell i c' h1'
   exact q.stay (Vu h) fun hm=>Ze (no i c' h1' hm)
theorem Wc{w:Vw}{a:Addr}{u o:HO}(h:w.H a=some u)(hu:Imm u=false):Ext w (w.alloc a o):=
 ⟨rfl,Nat.le_refl _,fun _ _=>rfl,fun b v q z=>by
  show upd w.H a o b=some v
  rw[Ze (by rintro rfl;rw[h] at q;cases q;rw[hu] at z;cases z)];exact q⟩
theorem RS.write{w:Vw}{M:Z0}{i:Nat}{u o:HO}{c0 c:Cell}(R:RS w M)(h0:M[i]?=some c0)(hm:c0.mut=true)(hc:c.mut=true)(h:w.H (w.μ i)=some u)(hu:Imm u=false)(new:Pm (w.alloc (w.μ i) o) c (w.μ i)):RS (w.alloc (w.μ i) o) (M.set i c):=by
 have hi:i<M.length:=(List.getElem?_eq_some_iff.mp h0).1
 have old:∀(j:Nat) (cj:Cell),(M.set i c)[j]?=some cj→cj.mut=true→∃cj',M[j]?=some cj'∧cj'.mut=true:=fun j cj e mj=>by
  by_cases h1:j=i
  ·subst h1;exact⟨c0,h0,hm⟩
  ·rw[List.getElem?_set_ne (Ne.symm h1)] at e
   exact⟨cj,e,mj⟩
 refine⟨by show w.n=_;rw[R.len];simp,fun a b ca cb ea eb ma mb e=>?_,fun j c' e=>?_⟩
 ·obtain⟨ca',ea',ma'⟩:=old a ca ea ma
  obtain⟨cb',eb',mb'⟩:=old b cb eb mb
  exact R.inj a b ca' cb' ea' eb' ma' mb' e
 ·by_cases h1:j=i
  ·subst h1
   rw[List.getElem?_set_self hi] at e
   cases e
   exact new
  ·rw[List.getElem?_set_ne (Ne.symm h1)] at e
   have q:=R.cell j c' e
   exact q.stay (Wc h hu) fun mj=>Ze (fun z=>h1 (R.inj j i c' c0 e h0 mj hm z))
theorem Ol{w:Vw}{a:Addr}{o:Obj}{vs:List (Key×V)}{u:HO}(h:w.H a=some (.frz o (.dK vs))):Ext0 w (w.alloc a u):=
 ⟨rfl,Nat.le_refl _,fun _ _=>rfl,fun b v q _ n=>by
  show upd w.H a u b=some v
  rw[Ze (by rintro rfl;rw[h] at q;cases q;exact n _ _ rfl)];exact q⟩
theorem RS.thaw{w:Vw}{M:Z0}{i:Nat}{o:Obj}{vs:List (Key×V)}{kvs:List (Key×D)}(R:RS w M)(h0:M[i]?=some (.fdc kvs))(h:w.H (w.μ i)=some (.frz o (.dK vs)))(r:RKV w kvs vs):RS (w.alloc (w.μ i) (.dK vs)) (M.set i (.dct kvs)):=by
 have hi:i<M.length:=(List.getElem?_eq_some_iff.mp h0).1
 have x:=Ol (u:= .dK vs) h
 have old:∀(j:Nat) (cj:Cell),(M.set i (.dct kvs))[j]?=some cj→cj.mut=true→∃cj',M[j]?=some cj'∧cj'.mut=true:=fun j cj e mj=>by
  by_cases h1:j=i
  ·subst h1;exact⟨_,h0,rfl⟩
  ·rw[List.getElem?_set_ne (Ne.symm h1)] at e
   exact⟨cj,e,mj⟩
 refine⟨by show w.n=_;rw[R.len];simp,fun a b ca cb ea eb ma mb e=>?_,fun j c' e=>?_⟩
 ·obtain⟨ca',ea',ma'⟩:=old a ca ea ma
  obtain⟨cb',eb',mb'⟩:=old b cb eb mb
  exact R.inj a b ca' cb' ea' eb' ma' mb' e
 ·by_cases h1:j=i
  ·subst h1
   rw[List.getElem?_set_self hi] at e
   cases e
   exact⟨vs,Zz,r.ext0 x⟩
  ·rw[List.getElem?_set_ne (Ne.symm h1)] at e
   have q:=R.cell j c' e
   have ne:c'.mut=true→w.μ j≠w.μ i:=fun mj z=>h1 (R.inj j i c' _ e h0 mj rfl z)
   cases c' with
   | lst ds=>obtain⟨us,q,r⟩:=q;exact⟨us,(Ze (ne rfl)).trans q,r.ext0 x⟩
   | dct ds=>obtain⟨us,q,r⟩:=q;exact⟨us,(Ze (ne rfl)).trans q,r.ext0 x⟩
   | fdc ds=>obtain⟨o,us,q,r⟩:=q;exact⟨o,us,(Ze (ne rfl)).trans q,r.ext0 x⟩
   | frz ds=>
    obtain⟨us,q,r⟩:=q
    refine⟨us,?_,r.ext0 x⟩
    rcases q with⟨o,q⟩ | q
    ·exact .inl ⟨o,x.imm _ _ q rfl (fun _ _ z=>by cases z)⟩
    ·exact .inr q
theorem Zc9{w1 w2:Vw}{a:Addr}{u f o:HO}(h:w1.H a=some u)(hu:Imm u=false)(x:Ext (w1.alloc a f) w2):Ext w1 (w2.alloc a o):=
 ⟨x.K,x.n,x.μ,fun b v q z=>by
  have hb:b≠a:=by rintro rfl;rw[h] at q;cases q;rw[hu] at z;cases z
  show upd w2.H a o b=some v
  rw[Ze hb]
  exact x.imm b v ((Ze hb).trans q) z⟩
inductive Op where
 | add | sub | mul | fdiv | mod | pow | band | bxor
 deriving DecidableEq
inductive Cm where
 | lt | le | gt | ge | eq | ne | is | isin | notin
 deriving DecidableEq
inductive Bf where
 | len | isinst | min2 | max2 | list1 | tuple1 | dict1 | sorted1
 deriving DecidableEq
inductive Mt where
 | append | get2 | pop0 | reverse | clearD
 deriving DecidableEq
inductive Ty where
 | int | str | bool | list | tuple | dict | valueError
 deriving DecidableEq
noncomputable def Xa:Ty→String
 | .int=>"int" | .str=>"str" | .bool=>"bool" | .list=>"list" | .tuple=>"tuple" | .dict=>"dict" | .valueError=>"ValueError"
set_option genInjectivity false in
mutual
inductive E where
 | var (i:Nat) | int (i:Int) | bl (b:Bool) | non | str (x:Str) | ty (x:Ty) | glb (k:Nat)
 | bin (op:Op) (a b:E) | neg (a:E) | not (a:E) | cmp (op:Cm) (a b:E) | bop (isAnd:Bool) (es:Es) | ife (c a b:E)
 | lst (es:Es) | tup (es:Es) | dict0 | dct (a b:E) | dct2 (a b c d:E) | ix (a b:E) | sl (a:E) (lo hi:Eo)
 | call (f:Nat) (es:Es) | callk (es:Es) (e:E) | bf (b:Bf) (es:Es) | mt (m:Mt) (o:E) (es:Es)
 | comp (N':List Str) (js:List (Option Nat)) (tg:List Nat) (it:It) (cd:Eo) (e:E)
 | rev (a:E)
inductive Es where
 | nil | cons (e:E) (r:Es)
inductive Eo where
 | no | yes (e:E)
inductive It where
 | seq (e:E) | rng1 (a:E) | rng2 (a b:E) | enm (e:E) | zip (es:Es)
end
inductive Tk where
 | drop | ret | set (j:Nat)
set_option genInjectivity false in
mutual
inductive S where
 | ret (e:E) | expr (e:E)
 | set (tg:List Nat) (e:E)
 | put (o i v:E)
 | ite (c:E) (a b:Ss) | for_ (tg:List Nat) (it:It) (b:Ss) | forK (tg:List Nat) (e:E) (b:Ss) | while_ (c:E) (b:Ss)
 | raise (k:Nat) (es:Es)
 | tryN (h:Tk) (f:Nat) (es:Es) (g:Nat) (s:Ss)
inductive Ss where
 | nil | cons (s:S) (r:Ss)
end
noncomputable def Za(M:Z0)(n:Nat):Option (List D):=match M[n]? with
 | some (.lst xs)=>some xs
 | some (.frz xs)=>some xs
 | _=>none
noncomputable def Zc(M:Z0)(n:Nat):Option (List D):=match M[n]? with
 | some (.lst xs)=>some xs
 | _=>none
noncomputable def Zd(M:Z0)(n:Nat):Option (List (Key×D)):=match M[n]? with
 | some (.dct xs)=>some xs
 | _=>none
noncomputable def Z44(M:Z0)(n:Nat):Option (List (Key×D)):=match M[n]? with
 | some (.dct xs)=>some xs
 | some (.fdc xs)=>some xs
 | _=>none
noncomputable def valD(kvs:List (Key×D))(k:Key):Option D:=(kvs.find? fun kv=>decide (kv.1=k)).map (·.2)
noncomputable def putD(kvs:List (Key×D))(k:Key)(v:D):List (Key×D):=
 if (kvs.any fun kv=>decide (kv.1=k))=true then kvs.map (fun kv=>if kv.1=k then(kv.1,v) else kv) else kvs++[(k,v)]
noncomputable def keyD:D→Option Key
 | .int i=>some (.inl i)
 | .str x=>some (.inr x)
 | _=>none
noncomputable def kD:Key→D
 | .inl i=> .int i
 | .inr x=> .str x
noncomputable def Xv(ps:List (Key×D)):List D:=ps.map fun p=> .tup [kD p.1,p.2]
noncomputable def Vi(ps:List (Key×D)):List (Key×D):=ps.foldl (fun m p=>putD m p.1 p.2) []
noncomputable def qdiv(i j:Int):Int:=if 0<j then i / j else i.fdiv j
noncomputable def qmod(i j:Int):Int:=if 0<j then i % j else i.fmod j
theorem Z23(i j:Int):i.fdiv j=qdiv i j:=by
 unfold qdiv
 split
 ·exact Int.fdiv_eq_ediv_of_nonneg _ (by omega)
 ·rfl
theorem Z61(i j:Int):i.fmod j=qmod i j:=by
 unfold qmod
 split
 ·exact Int.fmod_eq_emod_of_nonneg _ (by omega)
 ·rfl
theorem Zb7{i j:Int}(h:0<j):qmod i j=i % j:=if_pos h
def C5(x:D)(F:Int→Prop):Prop:=match x with
 | .int i=>F i
 | _=>False
def Q8(x:D)(F:Nat→Prop):Prop:=match x with
 | .ref n=>F n
 | _=>False
def Y37(x:D)(F:List D→Prop):Prop:=match x with
 | .tup l=>F l
 | _=>False
def Td(x y:D)(F:Int→Int→Prop):Prop:=C5 x fun i=>C5 y fun j=>F i j
def at0(l:List D)(P:Prop):Prop:=match l with
 | []=>P
 | _::_=>False
def at1(l:List D)(F:D→Prop):Prop:=match l with
 | []=>False
 | a::r=>at0 r (F a)
def at2(l:List D)(F:D→D→Prop):Prop:=match l with
 | []=>False
 | a::r=>at1 r (F a)
theorem Wt{x:D}{F:Int→Prop}(h:C5 x F):∃i,x= .int i∧F i:=by
 cases x with
 | int i=>exact⟨i,rfl,h⟩
 | _=>exact False.elim h
theorem Xg{x:D}{F:Nat→Prop}(h:Q8 x F):∃n,x= .ref n∧F n:=by
 cases x with
 | ref n=>exact⟨n,rfl,h⟩
 | _=>exact False.elim h
theorem Z24{x:D}{F:List D→Prop}(h:Y37 x F):∃l,x= .tup l∧F l:=by
 cases x with
 | tup l=>exact⟨l,rfl,h⟩
 | _=>exact False.elim h
theorem Yk{x y:D}{F:Int→Int→Prop}(h:Td x y F):∃i j,x= .int i∧y= .int j∧F i j:=by
 obtain⟨i,rfl,h1⟩:=Wt h
 obtain⟨j,rfl,h2⟩:=Wt h1
 exact⟨i,j,rfl,rfl,h2⟩
theorem Pp{l:List D}{P:Prop}(h:at0 l P):l=[]∧P:=by
 cases l with
 | nil=>exact⟨rfl,h⟩
 | cons _ _=>exact False.elim h
theorem Vl{l:List D}{F:D→Prop}(h:at1 l F):∃a,l=[a]∧F a:=by
 cases l with
 | nil=>exact False.elim h
 | cons a r=>obtain⟨rfl,h1⟩:=Pp h;exact⟨a,rfl,h1⟩
theorem R7{l:List D}{F:D→D→Prop}(h:at2 l F):∃a b,l=[a,b]∧F a b:=by
 cases l with
 | nil=>exact False.elim h
 | cons a r=>obtain⟨b,rfl,h1⟩:=Vl h;exact⟨a,b,rfl,h1⟩
def addD(x y:D)(M:Z0)(Q:DK):Prop:=match x with
 | .int i=>C5 y fun j=>Q (.int (i+j)) M
 | .str a=>match y with
  | .str b=>a.length+b.length≤sizeLine∧Q (.str (a++b)) M
  | _=>False
 | .tup a=>Y37 y fun b=>a≠[]∧a.length+b.length≤sizeLine∧Q (.tup (a++b)) M
 | .ref a=>Q8 y fun b=>∃xs ys,Zc M a=some xs∧Zc M b=some ys∧xs.length+ys.length≤sizeLine∧Q (.ref M.length) (M++[.lst (xs++ys)])
 | _=>False
def mulD(x y:D)(M:Z0)(Q:DK):Prop:=match x with
 | .int i=>C5 y fun j=>IntMulOk i j∧Q (.int (i * j)) M
 | .ref a=>C5 y fun k=>∃xs,Zc M a=some xs∧0≤k∧k<2 ^ 62∧xs.length * k.toNat≤sizeLine∧Q (.ref M.length) (M++[.lst (List.replicate k.toNat xs).flatten])
 | _=>False
def opD(op:Op)(x y:D)(M:Z0)(Q:DK):Prop:=match op with
 | .add=>addD x y M Q
 | .mul=>mulD x y M Q
 | .sub=>Td x y fun i j=>Q (.int (i - j)) M
 | .fdiv=>Td x y fun i j=>Z81 i j∧Q (.int (qdiv i j)) M
 | .mod=>Td x y fun i j=>j≠0∧Q (.int (qmod i j)) M
 | .pow=>Td x y fun i j=>CPow i j∧Q (.int (i ^ j.toNat)) M
 | .band=>Td x y fun i j=>Q (.int (Builtin.bitAnd i j)) M
 | .bxor=>Td x y fun i j=>Q (.int (Builtin.bitXor i j)) M
mutual
def PD(M:Z0):PyData→D→Prop
 | .none,d=>d= .non
 | .bool b,d=>d= .bl b
 | .int i,d=>d= .int i
 | .str x,d=>d= .str x
 | .list xs,d=>∃n ds,d= .ref n∧Za M n=some ds∧PDs M xs ds
 | .tuple xs,d=>∃ds,d= .tup ds∧PDs M xs ds
 | .dict _,_=>False
def PDs(M:Z0):List PyData→List D→Prop
 | [],ds=>ds=[]
 | x::xs,ds=>∃d r,ds=d::r∧PD M x d∧PDs M xs r
end
noncomputable def Xc:D→Bool
 | .non | .bl _ | .int _ | .str _=>true
 | _=>false
noncomputable def eqF:D→D→Bool
 | .non,.non=>true
 | .bl a,.bl b=>a==b
 | .bl a,.int b=>(if a then 1 else 0)==b
 | .int a,.bl b=>a==(if b then 1 else 0)
 | .int a,.int b=>a==b
 | .str a,.str b=>a==b
 | _,_=>false
noncomputable def inD(x:D)(xs:List D):Bool:=xs.any fun y=>eqF y x
noncomputable def eqKV(a b:List (Key×D)):Bool:=a.length==b.length&&a.all fun kv=>match valD b kv.1 with
 | some y=>eqF kv.2 y
 | none=>false
def eqD(M:Z0):D→D→(Bool→Prop)→Prop
 | .int i,.int j,Q=>Q (decide (i=j))
 | .str i,.str j,Q=>Q (decide (i=j))
 | .bl i,.bl j,Q=>Q (decide (i=j))
 | .non,.non,Q=>Q true
 | .non,.int _,Q=>Q false
 | .int _,.non,Q=>Q false
 | .non,.bl _,Q=>Q false
 | .bl _,.non,Q=>Q false
 | .non,.str _,Q=>Q false
 | .str _,.non,Q=>Q false
 | .int _,.str _,Q=>Q false
 | .str _,.int _,Q=>Q false
 | .bl _,.str _,Q=>Q false
 | .str _,.bl _,Q=>Q false
 | x,y,Q=>(∃da db,PD M da x∧PD M db y∧da.canLay0=true∧db.canLay0=true∧min da.depth db.depth≤60∧Q (PyData.eqv da db))∨
   ∃m n a b,x= .ref m∧y= .ref n∧Zd M m=some a∧Zd M n=some b∧(a.all fun kv=>Xc kv.2)=true∧(b.all fun kv=>Xc kv.2)=true∧Q (eqKV a b)
noncomputable def Z01(M:Z0):D→Option (List D)
 | .ref n=>Za M n
 | .tup xs=>some xs
 | .gtup xs=>some xs
 | _=>none
def inQ(M:Z0):D→D→(Bool→Prop)→Prop
 | .str a,.str b,Q=>Q (!(Builtin.Str.occurrences b a 0 b.length 1).isEmpty)
 | x,.ref n,Q=>(∃xs,Za M n=some xs∧Xc x=true∧xs.all Xc=true∧Q (inD x xs))∨(∃kvs k,Zd M n=some kvs∧keyD x=some k∧Q (valD kvs k).isSome)
 | x,.tup xs,Q=>Xc x=true∧xs.all Xc=true∧Q (inD x xs)
 | x,.gtup xs,Q=>Xc x=true∧xs.all Xc=true∧Q (inD x xs)
 | _,_,_=>False
def nonD(x y:D)(Q:Bool→Prop):Prop:=match y with
 | .non=>match x with
  | .non=>Q true
  | .bl _=>Q false
  | .int _=>Q false
  | .str _=>Q false
  | .tup _=>Q false
  | .ref _=>Q false
  | .exn _ _ _ _=>Q false
  | _=>False
 | _=>False
def cmD(M:Z0)(op:Cm)(x y:D)(Q:Bool→Prop):Prop:=match op with
 | .lt=>Td x y fun i j=>Q (decide (i<j))
 | .le=>Td x y fun i j=>Q (decide (i≤j))
 | .gt=>Td x y fun i j=>Q (decide (j<i))
 | .ge=>Td x y fun i j=>Q (decide (j≤i))
 | .eq=>eqD M x y Q
 | .ne=>eqD M x y fun b=>Q (!b)
 | .is=>nonD x y Q
 | .isin=>inQ M x y Q
 | .notin=>inQ M x y fun b=>Q (!b)
def truD(M:Z0):D→(Bool→Prop)→Prop
 | .non,Q=>Q false
 | .bl b,Q=>Q b
 | .int i,Q=>Q (i !=0)
 | .str x,Q=>x.length≤sizeLine∧Q ((x.length:Int) !=0)
 | .tup xs,Q=>Q (!xs.isEmpty)
 | .ref n,Q=>(∃xs,Za M n=some xs∧Q (!xs.isEmpty))∨(∃xs,Zd M n=some xs∧Q (!xs.isEmpty))
 | _,_=>False
def ixD(M:Z0):D→D→(D→Prop)→Prop
 | .ref n,k,Q=>(∃xs i d,k= .int i∧Za M n=some xs∧atI xs i=some d∧Q d)∨(∃kvs y d,Z44 M n=some kvs∧keyD k=some y∧valD kvs y=some d∧Q d)
 | .tup xs,.int i,Q=>∃d,atI xs i=some d∧Q d
 | .gtup xs,.int i,Q=>∃d,atI xs i=some d∧Q d
 | .str z,.int i,Q=>z.length≤sizeLine∧∃c,atI z.cps.toList i=some c∧Q (.str ⟨#[c]⟩)
 | _,_,_=>False
noncomputable def cutD{α:Type}(xs:List α)(lo hi:Option Int):List α:=(xs.drop (HT.sIx xs.length 0 lo)).take (HT.sIx xs.length xs.length hi - HT.sIx xs.length 0 lo)
def slD:D→Option Int→Option Int→Z0→DK→Prop
 | .str z,lo,hi,M,Q=>z.length≤sizeLine∧Q (.str (Txt.slice z lo hi)) M
 | .ref n,lo,hi,M,Q=>∃xs,Za M n=some xs∧Q (.ref M.length) (M++[.lst (cutD xs lo hi)])
 | .tup xs,lo,hi,M,Q=>¬(HT.sIx xs.length 0 lo=0∧HT.sIx xs.length xs.length hi=xs.length)∧Q (.tup (cutD xs lo hi)) M
 | _,_,_,_,_=>False
noncomputable def tyD(M:Z0):D→Option String
 | .non=>some "NoneType"
 | .bl _=>some "bool"
 | .int _=>some "int"
 | .str _=>some "str"
 | .tup _=>some "tuple"
 | .ref n=>match M[n]? with
  | some (.lst _)=>some "list"
  | some (.frz _)=>none
  | some (.dct _)=>some "dict"
  | some (.fdc _)=>none
  | none=>none
 | _=>none
def isD(K:PySem.W.Frag)(M:Z0):D→D→(Bool→Prop)→Prop
 | .exn _ C _ _,.cls c,Q=>∃b,ExcIs K C∧PySem.W.kitOne K (.ref C) (.ref c)=some b∧Q b
 | .exn _ C _ _,.ty c,Q=>∃b,ExcIs K C∧PySem.W.kitOne K (.ref C) (.type c)=some b∧Q b
 | .exn _ C _ _,.tup cs,Q=>∃(as:List Addr) (b:Bool),cs=as.map D.cls∧ExcIs K C∧PySem.W.kitAny K (.ref C) (as.map Value.ref)=some b∧Q b
 | d,.ty c,Q=>∃t b,tyD M d=some t∧PySem.W.kitOne K (.type t) (.type c)=some b∧Q b
 | _,_,_=>False
def lenD(x:D)(M:Z0)(Q:DK):Prop:=match x with
 | .ref n=>(∃xs,Za M n=some xs∧Q (.int xs.length) M)∨(∃xs,Zd M n=some xs∧Q (.int xs.length) M)
 | .tup xs=>Q (.int xs.length) M
 | .str x=>x.length≤sizeLine∧Q (.int x.length) M
 | _=>False
def bfD(K:PySem.W.Frag)(b:Bf)(l:List D)(M:Z0)(Q:DK):Prop:=match b with
 | .len=>at1 l fun x=>lenD x M Q
 | .isinst=>at2 l fun d c=>isD K M d c fun b=>Q (.bl b) M
 | .min2=>at2 l fun x y=>Td x y fun i j=>Q (.int (if j<i then j else i)) M
 | .max2=>at2 l fun x y=>Td x y fun i j=>Q (.int (if j >i then j else i)) M
 | .list1=>at1 l fun d=>∃xs,Z01 M d=some xs∧Q (.ref M.length) (M++[.lst xs])
 | .tuple1=>at1 l fun x=>Q8 x fun n=>∃xs,Za M n=some xs∧Q (.tup xs) M
 | .dict1=>at1 l fun x=>Q8 x fun n=>(∃xs,Zd M n=some xs∧Q (.ref M.length) (M++[.dct xs]))∨(∃ps:List (Key×D),Za M n=some (Xv ps)∧ps.length<sizeLine∧Q (.ref M.length) (M++[.dct (Vi ps)]))
 | .sorted1=>at1 l fun x=>Q8 x fun n=>∃(kvs:List (Key×D)) (ns:List Str),Zd M n=some kvs∧kvs.map (·.1)=ns.map Sum.inr∧ns.length<64∧∀ms:List Str,ms.Perm ns→sortedS ms=true→Q (.ref M.length) (M++[.lst (ms.map .str)])
def mtD(m:Mt)(o:D)(l:List D)(M:Z0)(Q:DK):Prop:=Q8 o fun n=>match m with
 | .append=>at1 l fun d=>∃xs,Zc M n=some xs∧xs.length<sizeLine∧Q .non (M.set n (.lst (xs++[d])))
 | .clearD=>at0 l (∃kvs,Zd M n=some kvs∧Q .non (M.set n (.dct [])))
 | .get2=>at2 l fun k z=>∃kvs y,Zd M n=some kvs∧keyD k=some y∧Q ((valD kvs y).getD z) M
 | .pop0=>at0 l (∃xs d,Zc M n=some xs∧xs[xs.length - 1]?=some d∧Q d (M.set n (.lst xs.dropLast)))
 | .reverse=>at0 l (∃xs,Zc M n=some xs∧Q .non (M.set n (.lst xs.reverse)))
def mtK(m:Mt)(o:D)(M:Z0):Prop:=Q8 o fun n=>match m with
 | .clearD=>(Zd M n).isSome=true
 | .get2=>(Zd M n).isSome=true
 | _=>(Za M n).isSome=true
def tgD:List Nat→D→DEnv→(DEnv→Prop)→Prop
 | [i],d,σ,Q=>Q (σ.set i (some d))
 | is,.tup ds,σ,Q=>ds.length=is.length∧Q ((is.zip ds).foldl (fun σ p=>σ.set p.1 (some p.2)) σ)
 | _,_,_,_=>False
inductive Own where
 | no | lst (n:Nat) | enm (n:Nat) | dct (n:Nat) | two (n m:Nat)
noncomputable def Nl(kvs:List (Key×D)):List D:=kvs.map fun p=>kD p.1
def Y14(n:Nat)(M:Z0)(Q:Z0→Prop):Prop:=∃kvs,M[n]?=some (.fdc kvs)∧Q (M.set n (.dct kvs))
noncomputable def Y43(n:Nat)(R:DEnds):DEnds:={nx:=fun σ M=>Y14 n M (R.nx σ),rt:=fun d M=>Y14 n M (R.rt d),bk:=fun _ _=>False,ct:=fun _ _=>False}
noncomputable def N9(xs:List D):List D:=xs.mapIdx fun i d=> .tup [.int i,d]
noncomputable def zipT(ys zs:List D):List D:=(ys.zip zs).map fun p=>D.tup [p.1,p.2]
def itD(M:Z0):D→(Own→List D→Prop)→Prop
 | .ref n,R=>∃xs,Za M n=some xs∧R (.lst n) xs
 | .tup xs,R=>R .no xs
 | .gtup xs,R=>R .no xs
 | _,_=>False
noncomputable def Q3(lo:Int)(n:Nat):List D:=(List.range n).map fun(k:Nat)=>D.int (lo+(k:Int))
def Oc(own:Own)(xs:List D)(M:Z0):Prop:=match own with
 | .lst n=>Za M n=some xs
 | .enm n=>∃ys,Za M n=some ys∧xs=N9 ys
 | .dct n=>∃kvs,M[n]?=some (.fdc kvs)∧xs=Nl kvs
 | .two n m=>∃ys zs,Za M n=some ys∧Za M m=some zs∧xs=zipT ys zs
 | .no=>True
def forD(own:Own)(xs:List D)(tg:List Nat)(body:DS):List D→DEnds→DEnv→Z0→Prop
 | [],R,σ,M=>Oc own xs M∧R.nx σ M
 | d::r,R,σ,M=>Oc own xs M∧tgD tg d σ fun σ'=>body {nx:=fun σ2 M2=>forD own xs tg body r R σ2 M2,rt:=R.rt,bk:=R.nx,ct:=fun σ2 M2=>forD own xs tg body r R σ2 M2} σ' M
def Nv(own:Own)(xs:List D)(tg:List Nat)(cd:DT)(el:DE)(z:Nat):List D→DEnv→Z0→(Z0→Prop)→Prop
 | [],_,M,Q=>Oc own xs M∧Q M
 | d::r,σ,M,Q=>Oc own xs M∧tgD tg d σ fun σ'=>cd σ' M fun b M1=>if b=true then
   el σ' M1 fun y M2=>∃acc,Zc M2 z=some acc∧acc.length<sizeLine∧Nv own xs tg cd el z r σ' (M2.set z (.lst (acc++[y]))) Q
   else Nv own xs tg cd el z r σ' M1 Q
noncomputable def capD(js:List (Option Nat))(σ:DEnv):DEnv:=js.map fun o=>o.bind fun j=>(σ[j]?).join
abbrev noX:DX:=fun _ _ _=>False
structure Cfg where
 K:PySem.W.Frag
 Γ:List DSp
 G:List D
mutual
def te(c:Cfg)(X:DX):E→DE
 | .var i,σ,M,Q=>match σ[i]? with
  | some (some d)=>Q d M
  | _=>False
 | .int i,_,M,Q=>Q (.int i) M
 | .bl b,_,M,Q=>Q (.bl b) M
 | .non,_,M,Q=>Q .non M
 | .str x,_,M,Q=>Q (.str x) M
 | .ty n,_,M,Q=>Q (.ty (Xa n)) M
 | .glb k,_,M,Q=>match c.G[k]? with
  | some d=>Q d M
  | none=>False
 | .bin op a b,σ,M,Q=>te c X a σ M fun x M1=>te c X b σ M1 fun y M2=>opD op x y M2 Q
 | .neg a,σ,M,Q=>te c X a σ M fun x M1=>match x with
  | .int i=>Q (.int (-i)) M1
  | _=>False
 | .not a,σ,M,Q=>te c X a σ M fun x M1=>truD M1 x fun b=>Q (.bl (!b)) M1
 | .cmp op a b,σ,M,Q=>te c X a σ M fun x M1=>te c X b σ M1 fun y M2=>cmD M2 op x y fun r=>Q (.bl r) M2
 | .bop k es,σ,M,Q=>tbop c X k es σ M Q
 | .ife t a b,σ,M,Q=>te c X t σ M fun x M1=>truD M1 x fun r=>if r=true then te c X a σ M1 Q else te c X b σ M1 Q
 | .lst es,σ,M,Q=>tes c X es σ M fun ds M1=>ds.length≤sizeLine∧Q (.ref M1.length) (M1++[.lst ds])
 | .tup es,σ,M,Q=>tes c X es σ M fun ds M1=>ds.length≤sizeLine∧Q (.tup ds) M1
 | .dict0,_,M,Q=>Q (.ref M.length) (M++[.dct []])
 | .dct2 a b d e,σ,M,Q=>te c X a σ (M++[.dct []]) fun x M1=>te c X b σ M1 fun y M2=>te c X d σ M2 fun x2 M3=>te c X e σ M3 fun y2 M4=>∃k k2,keyD x=some k∧keyD x2=some k2∧Zd M4 M.length=some []∧Q (.ref M.length) (M4.set M.length (.dct (putD [(k,y)] k2 y2)))
 | .dct a b,σ,M,Q=>te c X a σ (M++[.dct []]) fun x M1=>te c X b σ M1 fun y M2=>∃k,keyD x=some k∧Zd M2 M.length=some []∧Q (.ref M.length) (M2.set M.length (.dct [(k,y)]))
 | .ix a b,σ,M,Q=>te c X a σ M fun x M1=>te c X b σ M1 fun y M2=>ixD M2 x y fun d=>Q d M2
 | .sl a lo hi,σ,M,Q=>te c X a σ M fun x M1=>teo c X lo σ M1 fun l M2=>teo c X hi σ M2 fun h M3=>slD x l h M3 Q
 | .callk es e,σ,M,Q=>tes c X es σ M fun ds M1=>te c X e σ M1 fun d M2=>match c.Γ[14]? with
  | some sp=>sp (ds++[d]) M2 Q X
  | none=>False
 | .call f es,σ,M,Q=>tes c X es σ M fun ds M1=>match c.Γ[f]? with
  | some sp=>sp ds M1 Q X
  | none=>False
 | .bf b es,σ,M,Q=>tes c X es σ M fun ds M1=>bfD c.K b ds M1 Q
 | .rev a,σ,M,Q=>te c X a σ M fun x M1=>match x with
  | .ref n=>∃xs,Za M1 n=some xs∧Q (.ref M1.length) (M1++[.lst xs.reverse])
  | _=>False
 | .mt m o es,σ,M,Q=>te c X o σ M fun x M1=>mtK m x M1∧tes c X es σ M1 fun ds M2=>mtD m x ds M2 Q
 | .comp _ js tg it cd e,σ,M,Q=>tit c X it σ M fun own xs M1=>Nv own xs tg (tcd c noX cd) (te c noX e) M1.length xs (capD js σ) (M1++[.lst []]) fun M2=>Q (.ref M1.length) M2
def tbop(c:Cfg)(X:DX)(k:Bool):Es→DE
 | .nil,_,_,_=>False
 | .cons e .nil,σ,M,Q=>te c X e σ M Q
 | .cons e (.cons e2 r),σ,M,Q=>te c X e σ M fun x M1=>truD M1 x fun b=>if b=k then tbop c X k (.cons e2 r) σ M1 Q else Q x M1
def tes(c:Cfg)(X:DX):Es→DA
 | .nil,_,M,Q=>Q [] M
 | .cons e r,σ,M,Q=>te c X e σ M fun d M1=>tes c X r σ M1 fun ds M2=>Q (d::ds) M2
def teo(c:Cfg)(X:DX):Eo→DEnv→Z0→(Option Int→Z0→Prop)→Prop
 | .no,_,M,Q=>Q none M
 | .yes e,σ,M,Q=>te c X e σ M fun d M1=>match d with
  | .int i=>Q (some i) M1
  | _=>False
def tcd(c:Cfg)(X:DX):Eo→DT
 | .no,_,M,Q=>Q true M
 | .yes e,σ,M,Q=>te c X e σ M fun x M1=>truD M1 x fun b=>Q b M1
def tit(c:Cfg)(X:DX):It→DEnv→Z0→(Own→List D→Z0→Prop)→Prop
 | .seq e,σ,M,Q=>te c X e σ M fun d M1=>itD M1 d fun own xs=>Q own xs M1
 | .rng1 a,σ,M,Q=>te c X a σ M fun d M1=>match d with
  | .int j=> -(2 ^ 62)≤j∧j<2 ^ 62∧Q .no (Q3 0 j.toNat) M1
  | _=>False
 | .rng2 a b,σ,M,Q=>te c X a σ M fun d M1=>te c X b σ M1 fun d2 M2=>match d,d2 with
  | .int i,.int j=>(-(2 ^ 62)≤i∧i<2 ^ 62∧ -(2 ^ 62)≤j∧j<2 ^ 62)∧Q .no (Q3 i (j - i).toNat) M2
  | _,_=>False
 | .enm e,σ,M,Q=>te c X e σ M fun d M1=>match d with
  | .ref n=>∃xs,Za M1 n=some xs∧Q (.enm n) (N9 xs) M1
  | _=>False
 | .zip es,σ,M,Q=>tes c X es σ M fun ds M1=>at2 ds fun a b=>Q8 a fun n=>Q8 b fun m=>∃ys zs,Za M1 n=some ys∧Za M1 m=some zs∧Q (.two n m) (zipT ys zs) M1
end
def tt(c:Cfg)(X:DX)(e:E):DT:=fun σ M Q=>te c X e σ M fun x M1=>truD M1 x fun b=>Q b M1
noncomputable def tkD:Tk→DEnds→DEnv→DK
 | .drop,R,σ=>fun _ M=>R.nx σ M
 | .ret,R,_=>R.rt
 | .set j,R,σ=>fun d M=>R.nx (σ.set j (some d)) M
noncomputable def excD:List D→Option D
 | []=>some .non
 | [d]=>some d
 | _=>none
mutual
def ts(c:Cfg)(X:DX):S→DS
 | .ret e,R,σ,M=>te c X e σ M R.rt
 | .expr e,R,σ,M=>te c X e σ M fun _ M1=>R.nx σ M1
 | .set tg e,R,σ,M=>te c X e σ M fun d M1=>tgD tg d σ fun σ'=>R.nx σ' M1
 | .put o i v,R,σ,M=>te c X v σ M fun d M1=>te c X o σ M1 fun x M2=>te c X i σ M2 fun y M3=>match x with
  | .ref n=>(∃xs k j,y= .int k∧Zc M3 n=some xs∧ixN xs.length k=some j∧R.nx σ (M3.set n (.lst (xs.set j d))))∨
    (∃kvs k,Zd M3 n=some kvs∧keyD y=some k∧kvs.length<sizeLine∧R.nx σ (M3.set n (.dct (putD kvs k d))))
  | _=>False
 | .ite t a b,R,σ,M=>tt c X t σ M fun r M1=>if r=true then tss c X a R σ M1 else tss c X b R σ M1
 | .for_ tg it b,R,σ,M=>tit c X it σ M fun own xs M1=>forD own xs tg (tss c X b) xs R σ M1
 | .forK tg e b,R,σ,M=>te c X e σ M fun d M1=>match d with
  | .ref n=>∃kvs,Zd M1 n=some kvs∧forD (.dct n) (Nl kvs) tg (tss c X b) (Nl kvs) (Y43 n R) σ (M1.set n (.fdc kvs))
  | _=>False
 | .while_ t b,R,σ,M=>∃W:Nat→DEnv→Z0→Prop,(∃m,W m σ M)∧∀m σ M,W m σ M→tt c X t σ M fun r M1=>if r=true then
   tss c X b {nx:=fun σ2 M2=>∃m',m'<m∧W m' σ2 M2,rt:=R.rt,bk:=R.nx,ct:=fun σ2 M2=>∃m',m'<m∧W m' σ2 M2} σ M1 else R.nx σ M1
 | .raise k es,_,σ,M=>match c.G[k]? with
  | some (.cls C)=>tes c X es σ M fun ds M1=>match excD ds with
   | some r=>X C r M1
   | none=>False
  | _=>False
 | .tryN h f es g s,R,σ,M=>match c.G[g]? with
  | some (.cls D)=>tes c noX es σ M fun ds M1=>match c.Γ[f]? with
   | some sp=>sp ds M1 (tkD h R σ) fun C _ M2=>Catch c.K C D true∧tss c noX s R σ M2
   | none=>False
  | _=>False
def tss(c:Cfg)(X:DX):Ss→DS
 | .nil,R,σ,M=>R.nx σ M
 | .cons s r,R,σ,M=>ts c X s {R with nx:=fun σ' M'=>tss c X r R σ' M'} σ M
end
def REnv(w:Vw)(σD:DEnv)(σ:L2.St):Prop:=σD.length=σ.length∧∀(i:Nat) d,σD[i]?=some (some d)→∃v,σ[i]?=some (some v)∧RD w d v
theorem REnv.ext{w w':Vw}{σD:DEnv}{σ:L2.St}(h:REnv w σD σ)(x:Ext w w'):REnv w' σD σ:=
 ⟨h.1,fun i d e=>by obtain⟨v,q,r⟩:=h.2 i d e;exact⟨v,q,r.ext x⟩⟩
theorem REnv.set{w:Vw}{σD:DEnv}{σ:L2.St}{d:D}{v:V}(h:REnv w σD σ)(i:Nat)(r:RD w d v):REnv w (σD.set i (some d)) (σ.set i (some v)):=by
 refine⟨by simp[h.1],fun j d' e=>?_⟩
 by_cases hj:i=j
 ·subst hj
  by_cases hl:i<σD.length
  ·rw[List.getElem?_set_self hl] at e
   cases e
   exact⟨v,by rw[List.getElem?_set_self (by rw[←h.1];exact hl)],r⟩
  ·rw[List.getElem?_eq_none (by simp;omega)] at e
   cases e
 ·rw[List.getElem?_set_ne hj] at e
  rw[List.getElem?_set_ne hj]
  exact h.2 j d' e
structure StOk(w0 w:Vw)(σD:DEnv)(M:Z0)(σ:L2.St)(H:Hp):Prop where
 heap:w.H=H
 ext:Ext w0 w
 rs:RS w M
 env:REnv w σD σ
theorem StOk.next{w0 w w':Vw}{σD:DEnv}{M M':Z0}{σ:L2.St}{H:Hp}(s:StOk w0 w σD M σ H)(x:Ext w w')(r:RS w' M'):StOk w0 w' σD M' σ w'.H:=
 ⟨rfl,s.ext.trans x,r,s.env.ext x⟩
def Aft(w:Vw)(QD:DK)(Q:VK):Prop:=∀v w' d M',Ext w w'→RS w' M'→RD w' d v→QD d M'→Q v w'.H
def tF(w0:Vw)(f:DE):TE:=fun σ H Q=>∃w σD M QD,StOk w0 w σD M σ H∧f σD M QD∧Aft w QD Q
def tFA(w0:Vw)(f:DA):TA:=fun σ H Q=>∃w σD M QD,StOk w0 w σD M σ H∧f σD M QD∧∀vs w' ds M',Ext w w'→RS w' M'→RDs w' ds vs→QD ds M'→Q vs w'.H
def tFT(w0:Vw)(f:DT):TT:=fun σ H Q=>∃w σD M QD,StOk w0 w σD M σ H∧f σD M QD∧∀b w' M',Ext w w'→RS w' M'→QD b M'→Q b w'.H
def tFO(w0:Vw)(f:DEnv→Z0→(Option Int→Z0→Prop)→Prop):TO:=fun σ H Q=>∃w σD M QD,StOk w0 w σD M σ H∧f σD M QD∧∀b w' M',Ext w w'→RS w' M'→QD b M'→Q b w'.H
def tFS(w0:Vw)(f:DS):TS:=fun R σ H=>∃w σD M RD',StOk w0 w σD M σ H∧f RD' σD M∧
 (∀σ' w' σD' M',Ext w w'→RS w' M'→REnv w' σD' σ'→RD'.nx σD' M'→R.nx σ' w'.H)∧Aft w RD'.rt R.rt∧
 (∀σ' w' σD' M',Ext w w'→RS w' M'→REnv w' σD' σ'→RD'.bk σD' M'→R.bk σ' w'.H)∧
 (∀σ' w' σD' M',Ext w w'→RS w' M'→REnv w' σD' σ'→RD'.ct σD' M'→R.ct σ' w'.H)
def xkOf(w:Vw)(Z:DX):XK:=fun cls dd H'=>∃C dx r w' row M',cls= .ref C∧dd=some dx∧w'.H=H'∧Ext w w'∧RS w' M'∧H' dx=some (.xd [("row",r)])∧RD w' row r∧Z C row M'
def spF(K:PySem.W.Frag)(sp:DSp):Sp:=fun vs H Q E=>∃w ds M QD Z,w.K=K∧w.H=H∧RS w M∧RDs w ds vs∧sp ds M QD Z∧Aft w QD Q∧∀cls dd H',xkOf w Z cls dd H'→E cls dd H'
theorem Aft.ext{w w':Vw}{QD:DK}{Q:VK}(h:Aft w QD Q)(x:Ext w w'):Aft w' QD Q:=fun v w2 d M y r q p=>h v w2 d M (x.trans y) r q p
section
variable{X:Cx}{e:Expr}{w0:Vw}
theorem PE.imp{t t':TE}(h:PE X e t)(k:∀σ H Q,t' σ H Q→t σ H Q):PE X e t':=fun pins s σ H Q I q=>h pins s σ H Q I (k σ H Q q)
theorem PT.imp{t t':TT}(h:PT X e t)(k:∀σ H Q,t' σ H Q→t σ H Q):PT X e t':=fun pins s σ H Q I q=>h pins s σ H Q I (k σ H Q q)
theorem PA.imp{es:List Expr}{t t':TA}(h:PA X es t)(k:∀σ H Q,t' σ H Q→t σ H Q):PA X es t':=fun pos pins s σ H Q I q=>h pos pins s σ H Q I (k σ H Q q)
theorem PS.imp{st:Stmt}{t t':TS}(h:PS X st t)(k:∀R σ H,t' R σ H→t R σ H):PS X st t':=fun pins s σ H R I q=>h pins s σ H R I (k R σ H q)
theorem PSs.imp{st:List Stmt}{t t':TS}(h:PSs X st t)(k:∀R σ H,t' R σ H→t R σ H):PSs X st t':=fun pins s σ H R I q=>h pins s σ H R I (k R σ H q)
end
def rF(w0:Vw)(g:D→D→Z0→DK→Prop):R2:=fun x y H Q=>∃w M dx dy QD,w.H=H∧Ext w0 w∧RS w M∧RD w dx x∧RD w dy y∧g dx dy M QD∧Aft w QD Q
theorem Zf{w:Vw}{i:Int}{v:V}:RD w (.int i) v↔v= .int i:=by unfold RD;exact Iff.rfl
theorem Yb{w:Vw}{i:Str}{v:V}:RD w (.str i) v↔v= .str i:=by unfold RD;exact Iff.rfl
theorem Xx{w:Vw}{i:Bool}{v:V}:RD w (.bl i) v↔v= .bl i:=by unfold RD;exact Iff.rfl
theorem Yc{w:Vw}{v:V}:RD w .non v↔v= .non:=by unfold RD;exact Iff.rfl
theorem Zp4{w:Vw}{n:String}{v:V}:RD w (.ty n) v↔v= .ty n:=by unfold RD;exact Iff.rfl
theorem Rt{w:Vw}{n:Addr}{v:V}:RD w (.cls n) v↔v= .ref n:=by unfold RD;exact Iff.rfl
theorem Zv{w:Vw}{i:Nat}{v:V}:RD w (.ref i) v↔i<w.n∧v= .ref (w.μ i):=by unfold RD;exact Iff.rfl
theorem Xn{w:Vw}{ds:List D}{v:V}:RD w (.tup ds) v↔∃a vs,v= .ref a∧w.H a=some (.tup vs)∧RDs w ds vs:=by unfold RD;exact Iff.rfl
theorem Pu{w:Vw}{ds:List D}{v:V}:RD w (.gtup ds) v↔∃a vs,v= .ref a∧SqT w.K w.H a vs∧RDs w ds vs:=by unfold RD;exact Iff.rfl
theorem Er{w:Vw}{e C dx:Addr}{row:D}{v:V}:RD w (.exn e C dx row) v↔v= .ref e∧w.H e=some (XO e (.ref C) (some dx))∧∃r,w.H dx=some (.xd [("row",r)])∧RD w row r:=Iff.of_eq (by rw[RD])
theorem RDs.empty{w:Vw}{ds:List D}(h:RDs w ds []):ds=[]:=by
 have:=h.length
 exact List.length_eq_zero_iff.mp this.symm
theorem Zp3{M:Z0}{n:Nat}{xs:List D}(h:Zc M n=some xs):Za M n=some xs:=by
 unfold Zc at h
 unfold Za
 split at h
 ·rename_i e;rw[e];exact h
 ·cases h
theorem Of{M:Z0}{n:Nat}{xs:List D}(h:Zc M n=some xs):M[n]?=some (.lst xs):=by
 unfold Zc at h
 split at h
 ·rename_i e;rw[e];cases h;rfl
 ·cases h
theorem S9{M:Z0}{n:Nat}{xs:List (Key×D)}(h:Zd M n=some xs):M[n]?=some (.dct xs):=by
 unfold Zd at h
 split at h
 ·rename_i e;rw[e];cases h;rfl
 ·cases h
theorem RS.list{w:Vw}{M:Z0}{n:Nat}{xs:List D}(R:RS w M)(h:Zc M n=some xs):M[n]?=some (.lst xs)∧∃vs,w.H (w.μ n)=some (.lst vs)∧RDs w xs vs:=
 ⟨Of h,R.cell n _ (Of h)⟩
theorem RS.listL{w:Vw}{M:Z0}{n:Nat}{xs:List D}(R:RS w M)(h:Za M n=some xs):n<w.n∧∃vs,SqL w.K w.H (w.μ n) vs∧RDs w xs vs∧True:=by
 unfold Za at h
 split at h
 ·rename_i ys e
  cases h
  obtain⟨vs,q,r⟩:=R.cell n _ e
  exact⟨by rw[R.len];exact(List.getElem?_eq_some_iff.mp e).1,vs,.inl (.inl q),r,trivial⟩
 ·rename_i ys e
  cases h
  obtain⟨vs,q,r⟩:=R.cell n _ e
  exact⟨by rw[R.len];exact(List.getElem?_eq_some_iff.mp e).1,vs,q.sq,r,trivial⟩
 ·cases h
theorem Zm5{M:Z0}{n:Nat}{xs:List (Key×D)}(h:Zd M n=some xs):Z44 M n=some xs:=by
 unfold Z44;rw[S9 h]
theorem RS.dictF{w:Vw}{M:Z0}{n:Nat}{xs:List (Key×D)}(R:RS w M)(h:Z44 M n=some xs):∃vs,Rd w.H (w.μ n) (.dK vs)∧RKV w xs vs:=by
 unfold Z44 at h
 split at h
 ·rename_i ys e
  cases h
  obtain⟨vs,q1,q2⟩:=R.cell n _ e
  exact⟨vs,.inl q1,q2⟩
 ·rename_i ys e
  cases h
  obtain⟨o,vs,q1,q2⟩:=R.cell n _ e
  exact⟨vs,.inr ⟨o,q1⟩,q2⟩
 ·cases h
theorem RS.dict{w:Vw}{M:Z0}{n:Nat}{xs:List (Key×D)}(R:RS w M)(h:Zd M n=some xs):M[n]?=some (.dct xs)∧∃vs,w.H (w.μ n)=some (.dK vs)∧RKV w xs vs:=
 ⟨S9 h,R.cell n _ (S9 h)⟩
theorem W7{w:Vw}{M:Z0}{p:Addr}{xs:List D}{vs:List V}(R:RS w M)(hp:w.H p=none)(r:RDs w xs vs):Ext w (w.push p (.lst vs))∧RS (w.push p (.lst vs)) (M++[.lst xs])∧RD (w.push p (.lst vs)) (.ref M.length) (.ref p):=by
 refine⟨Vu hp,R.push hp ⟨vs,Zz,r.ext (Vu hp)⟩,Zv.mpr ⟨?_,?_⟩⟩
 ·show M.length<w.n+1
  rw[R.len];omega
 ·show V.ref p=V.ref (if M.length=w.n then p else w.μ M.length)
  rw[if_pos R.len.symm]
theorem T2{w:Vw}{M:Z0}{p:Addr}{xs:List (Key×D)}{vs:List (Key×V)}(R:RS w M)(hp:w.H p=none)(r:RKV w xs vs):Ext w (w.push p (.dK vs))∧RS (w.push p (.dK vs)) (M++[.dct xs])∧RD (w.push p (.dK vs)) (.ref M.length) (.ref p):=by
 refine⟨Vu hp,R.push hp ⟨vs,Zz,r.ext (Vu hp)⟩,Zv.mpr ⟨?_,?_⟩⟩
 ·show M.length<w.n+1
  rw[R.len];omega
 ·show V.ref p=V.ref (if M.length=w.n then p else w.μ M.length)
  rw[if_pos R.len.symm]
theorem Te{w:Vw}{M:Z0}{p:Addr}{xs:List D}{vs:List V}(R:RS w M)(hp:w.H p=none)(r:RDs w xs vs):Ext w (w.alloc p (.tup vs))∧RS (w.alloc p (.tup vs)) M∧RD (w.alloc p (.tup vs)) (.tup xs) (.ref p):=
 ⟨V0 hp,R.alloc hp,Xn.mpr ⟨p,vs,rfl,Zz,r.ext (V0 hp)⟩⟩
theorem We{w:Vw}{M:Z0}{n:Nat}{us vs:List V}{ys xs:List D}(R:RS w M)(hn:M[n]?=some (.lst ys))(h:w.H (w.μ n)=some (.lst us))(r:RDs w xs vs):Ext w (w.alloc (w.μ n) (.lst vs))∧RS (w.alloc (w.μ n) (.lst vs)) (M.set n (.lst xs)):=
 ⟨Wc h rfl,R.write hn rfl rfl h rfl ⟨vs,Zz,r.ext (Wc h rfl)⟩⟩
theorem Vg{w:Vw}{M:Z0}{n:Nat}{us vs:List (Key×V)}{ys xs:List (Key×D)}(R:RS w M)(hn:M[n]?=some (.dct ys))(h:w.H (w.μ n)=some (.dK us))(r:RKV w xs vs):Ext w (w.alloc (w.μ n) (.dK vs))∧RS (w.alloc (w.μ n) (.dK vs)) (M.set n (.dct xs)):=
 ⟨Wc h rfl,R.write hn rfl rfl h rfl ⟨vs,Zz,r.ext (Wc h rfl)⟩⟩
section
variable{X:Cx}{w0:Vw}
theorem Wu{f:Value→Value→Sem Value}{g:Int→Int→V}{o:D→D→Z0→DK→Prop}{C:Int→Int→Prop}{k:Int→Int→D}(h:OpR X f (rI C g))(hk:∀w i j,RD w (k i j) (g i j))
  {pins:List (Addr×Obj)} {s:Shared} {σ:L2.St} {x y:V} {v u:Value} {Q:VK} {w:Vw} {M:Z0} {QD:DK} {i j:Int} (I:Inv X pins σ w.H s) (rx:RelV x v) (ry:RelV y u) (R:RS w M) (hx:RD w (.int i) x) (hy:RD w (.int j) y)
  (hc:C i j) (q:QD (k i j) M) (a:Aft w QD Q):wpAny (model X.prog X.w) X.A (f v u) (EP X pins σ Q) X.xe s:=by
 cases Zf.mp hx
 cases Zf.mp hy
 exact h pins s σ w.H _ _ v u Q I rx ry ⟨i,j,rfl,rfl,hc,a _ w _ M (Ext.refl w) R (hk w i j) q⟩
noncomputable def opOf:Op→Operator
 | .add=> .Add | .sub=> .Sub | .mul=> .Mult | .fdiv=> .FloorDiv | .mod=> .Mod | .pow=> .Pow | .band=> .BitAnd | .bxor=> .BitXor
theorem Za5{f:Value→Value→Sem Value}{g:Int→Int→V}(h:OpR X f (rI0 g)):OpR X f (rI (fun _ _=>True) g):=fun pins s σ H x y v u Q I rx ry zz70=>by obtain⟨i,j,e1,e2,_,q⟩:=zz70;exact h pins s σ H x y v u Q I rx ry ⟨i,j,e1,e2,q⟩
theorem RDs.rep{w:Vw}{xs:List D}{vs:List V}(h:RDs w xs vs):∀n:Nat,RDs w (List.replicate n xs).flatten (List.replicate n vs).flatten
 | 0=>RDs.nil w
 | n+1=>by
  rw[List.replicate_succ,List.replicate_succ,List.flatten_cons,List.flatten_cons]
  exact h.append (RDs.rep h n)
theorem Zb4(op:Op):OpR X (binaryOp (opOf op)) (rF w0 (opD op)):=by
 intro pins s σ H x y v u Q I rx ry h
 obtain⟨w,M,dx,dy,QD,rfl,e0,R,hx,hy,g,a⟩:=h
 have ri:∀w (i:Int),RD w (.int i) (.int i):=fun w i=>Zf.mpr rfl
 cases op with
 | add=>
  cases dx with
  | int i=>
   obtain⟨j,rfl,g2⟩:=Wt g;clear g;have g:=g2
   exact Wu (o:=opD .add) (C:=fun _ _=>True) (k:=fun i j=> .int (i+j)) (Za5 Zv3) (fun w i j=>ri w _) I rx ry R hx hy trivial g a
  | str z=>
   cases dy with
   | str z2=>
    cases Yb.mp hx;cases Yb.mp hy
    exact Co pins s σ w.H _ _ v u Q I rx ry ⟨_,_,rfl,rfl,g.1,a _ w _ M (Ext.refl w) R (Yb.mpr rfl) g.2⟩
   | _=>exact False.elim g
  | tup l=>
   obtain⟨l2,rfl,g2⟩:=Z24 g;clear g;have g:=g2
   obtain⟨a1,vs1,rfl,h1,r1⟩:=Xn.mp hx
   obtain⟨a2,vs2,rfl,h2,r2⟩:=Xn.mp hy
   obtain⟨g1,g2,g3⟩:=g
   refine Zn8 pins s σ w.H _ _ v u Q I rx ry ⟨a1,a2,vs1,vs2,rfl,rfl,.of h1,.of h2,?_,by rw[r1.length,r2.length];exact g2,fun z=>?_,fun _ p hp=>?_⟩
   ·intro z;subst z;have:=r1.length;simp at this;exact g1 (List.length_eq_zero_iff.mp this.symm)
   ·subst z
    cases r2.empty
    rw[List.append_nil] at g3
    exact a _ w _ M (Ext.refl w) R hx g3
   ·obtain⟨x1,x2,x3⟩:=Te R hp (r1.append r2)
    exact a _ _ _ M x1 x2 x3 g3
  | ref n=>
   obtain⟨n2,rfl,g2⟩:=Xg g;clear g;have g:=g2
   obtain⟨h1,rfl⟩:=Zv.mp hx
   obtain⟨h2,rfl⟩:=Zv.mp hy
   obtain⟨xs,ys,g1,g2,g3,g4⟩:=g
   obtain⟨_,vs1,q1,r1⟩:=R.list g1
   obtain⟨_,vs2,q2,r2⟩:=R.list g2
   refine Zz6 pins s σ w.H _ _ v u Q I rx ry ⟨_,_,vs1,vs2,rfl,rfl,q1,q2,by rw[r1.length,r2.length];exact g3,fun p hp=>?_⟩
   obtain⟨x1,x2,x3⟩:=W7 R hp (r1.append r2)
   exact a _ _ _ _ x1 x2 x3 g4
  | _=>exact False.elim g
 | mul=>
  cases dx with
  | int i=>
   obtain⟨j,rfl,g2⟩:=Wt g;clear g;have g:=g2
   exact Wu (o:=opD .add) (C:=IntMulOk) (k:=fun i j=> .int (i * j)) Zu3 (fun w i j=>ri w _) I rx ry R hx hy g.1 g.2 a
  | ref n=>
   obtain⟨k,rfl,g2⟩:=Wt g;clear g;have g:=g2
   obtain⟨h1,rfl⟩:=Zv.mp hx
   cases Zf.mp hy
   obtain⟨xs,g1,g2,g3,g4,g5⟩:=g
   obtain⟨_,vs1,q1,r1⟩:=R.list g1
   refine Y33 pins s σ w.H _ _ v u Q I rx ry ⟨_,_,vs1,rfl,rfl,q1,by omega,by omega,by rw[r1.length];exact g4,fun p hp=>?_⟩
   obtain⟨x1,x2,x3⟩:=W7 R hp (r1.rep _)
   exact a _ _ _ _ x1 x2 x3 g5
  | _=>exact False.elim g
 | sub=>
  obtain⟨i,j,rfl,rfl,g2⟩:=Yk g;clear g;have g:=g2
  exact Wu (o:=opD .add) (C:=fun _ _=>True) (k:=fun i j=> .int (i - j)) (Za5 Y26) (fun w i j=>ri w _) I rx ry R hx hy trivial g a
 | fdiv=>
  obtain⟨i,j,rfl,rfl,g2⟩:=Yk g;clear g;have g:=g2
  exact Wu (o:=opD .add) (C:=Z81) (k:=fun i j=> .int (qdiv i j)) Zi3 (fun w i j=>by rw[Z23];exact ri w _) I rx ry R hx hy g.1 g.2 a
 | mod=>
  obtain⟨i,j,rfl,rfl,g2⟩:=Yk g;clear g;have g:=g2
  exact Wu (o:=opD .add) (C:=fun _ j=>j≠0) (k:=fun i j=> .int (qmod i j)) Zo2 (fun w i j=>by rw[Z61];exact ri w _) I rx ry R hx hy g.1 g.2 a
 | pow=>
  obtain⟨i,j,rfl,rfl,g2⟩:=Yk g;clear g;have g:=g2
  exact Wu (o:=opD .add) (C:=CPow) (k:=fun i j=> .int (i ^ j.toNat)) Zv9 (fun w i j=>ri w _) I rx ry R hx hy g.1 g.2 a
 | band=>
  obtain⟨i,j,rfl,rfl,g2⟩:=Yk g;clear g;have g:=g2
  exact Wu (o:=opD .add) (C:=fun _ _=>True) (k:=fun i j=> .int (Builtin.bitAnd i j)) (Za5 Y40) (fun w i j=>ri w _) I rx ry R hx hy trivial g a
 | bxor=>
  obtain⟨i,j,rfl,rfl,g2⟩:=Yk g;clear g;have g:=g2
  exact Wu (o:=opD .add) (C:=fun _ _=>True) (k:=fun i j=> .int (Builtin.bitXor i j)) (Za5 Zw3) (fun w i j=>ri w _) I rx ry R hx hy trivial g a
end
def rB(w0:Vw)(g:Z0→D→D→(Bool→Prop)→Prop):R2:=fun x y H Q=>∃w M dx dy QD,w.H=H∧w.K=w0.K∧RS w M∧RD w dx x∧RD w dy y∧g M dx dy QD∧∀b,QD b→Q (.bl b) H
mutual
theorem Z42{w:Vw}{M:Z0}(R:RS w M):∀(da:PyData) {d:D} {v:V},PD M da d→RD w d v→Rep w.K w.H da v
 | .none,d,v,h,r=>by unfold PD at h;subst h;unfold Rep;exact Yc.mp r
 | .bool b,d,v,h,r=>by unfold PD at h;subst h;unfold Rep;exact Xx.mp r
 | .int b,d,v,h,r=>by unfold PD at h;subst h;unfold Rep;exact Zf.mp r
 | .str b,d,v,h,r=>by unfold PD at h;subst h;unfold Rep;exact Yb.mp r
 | .list xs,d,v,h,r=>by
  unfold PD at h
  obtain⟨n,ds,rfl,h1,h2⟩:=h
  obtain⟨_,rfl⟩:=Zv.mp r
  obtain⟨_,vs,q1,q2,_⟩:=R.listL h1
  unfold Rep
  exact⟨_,vs,rfl,q1,Rf R xs h2 q2⟩
 | .tuple xs,d,v,h,r=>by
  unfold PD at h
  obtain⟨ds,rfl,h2⟩:=h
  obtain⟨a,vs,rfl,q1,q2⟩:=Xn.mp r
  unfold Rep
  exact⟨_,vs,rfl,.of q1,Rf R xs h2 q2⟩
 | .dict _,d,v,h,r=>by unfold PD at h;exact h.elim
theorem Rf{w:Vw}{M:Z0}(R:RS w M):∀(xs:List PyData) {ds:List D} {vs:List V},PDs M xs ds→RDs w ds vs→Wd w.K w.H xs vs
 | [],ds,vs,h,r=>by unfold PDs at h;subst h;unfold RDs at r;unfold Wd;exact r
 | x::xs,ds,vs,h,r=>by
  unfold PDs at h
  obtain⟨d,r',rfl,h1,h2⟩:=h
  unfold RDs at r
  obtain⟨v,r2,rfl,q1,q2⟩:=r
  unfold Wd
  exact⟨v,r2,rfl,Z42 R x h1 q1,Rf R xs h2 q2⟩
end
theorem Vx{w:Vw}{d:D}{v:V}(f:Xc d=true)(r:RD w d v):Q1 v=true:=by
 cases d<;>simp[Xc] at f
 ·cases Yc.mp r;rfl
 ·cases Xx.mp r;rfl
 ·cases Zf.mp r;rfl
 ·cases Yb.mp r;rfl
theorem Z05{w:Vw}{d e:D}{v u:V}(f:Xc d=true)(g:Xc e=true)(r:RD w d v)(q:RD w e u):eqV v u=eqF d e:=by
 cases d<;>simp[Xc] at f
 all_goals (cases e<;>simp[Xc] at g)
 all_goals first
  |(first | cases Yc.mp r | cases Xx.mp r | cases Zf.mp r | cases Yb.mp r)
 all_goals first
  |(first | cases Yc.mp q | cases Xx.mp q | cases Zf.mp q | cases Yb.mp q)
 all_goals rfl
theorem Zj1{w:Vw}{x:D}{v:V}(f:Xc x=true)(r:RD w x v):∀{ds:List D} {vs:List V},ds.all Xc=true→RDs w ds vs→inV v vs=inD x ds∧vs.all Q1=true
 | [],vs,_,h=>by unfold RDs at h;subst h;exact⟨rfl,rfl⟩
 | d::ds,vs,g,h=>by
  unfold RDs at h
  obtain⟨v1,r1,rfl,h1,h2⟩:=h
  simp only[List.all_cons,Bool.and_eq_true] at g
  obtain⟨i1,i2⟩:=Zj1 f r g.2 h2
  refine⟨?_,by simp only[List.all_cons,Bool.and_eq_true];exact⟨Vx g.1 h1,i2⟩⟩
  unfold inV inD at *
  rw[List.any_cons,List.any_cons,Z05 g.1 f h1 r,i1]
theorem RKV.val{w:Vw}:∀{ds:List (Key×D)} {vs:List (Key×V)} (k:Key),RKV w ds vs→(valD ds k=none∧valV vs k=none)∨∃d v,valD ds k=some d∧valV vs k=some v∧RD w d v
 | [],vs,k,h=>by unfold RKV at h;subst h;exact .inl ⟨rfl,rfl⟩
 |(k',d)::ds,vs,k,h=>by
  unfold RKV at h
  obtain⟨v,r,rfl,h1,h2⟩:=h
  by_cases e:k'=k
  ·exact .inr ⟨d,v,by simp[valD,List.find?_cons,e],by simp[valV,List.find?_cons,e],h1⟩
  ·have:=RKV.val k h2
   simpa[valD,valV,List.find?_cons,e] using this
theorem RKV.length{w:Vw}:∀{ds:List (Key×D)} {vs:List (Key×V)},RKV w ds vs→vs.length=ds.length
 | [],vs,h=>by unfold RKV at h;subst h;rfl
 |(k',d)::ds,vs,h=>by
  unfold RKV at h
  obtain⟨v,r,rfl,h1,h2⟩:=h
  simp[RKV.length h2]
theorem RKV.any{w:Vw}(k:Key):∀{ds:List (Key×D)} {vs:List (Key×V)},RKV w ds vs→(vs.any fun kv=>decide (kv.1=k))=(ds.any fun kv=>decide (kv.1=k))
 | [],vs,h=>by unfold RKV at h;subst h;rfl
 |(k',d)::ds,vs,h=>by
  unfold RKV at h
  obtain⟨v,r,rfl,h1,h2⟩:=h
  simp[RKV.any k h2]
theorem RKV.repl{w:Vw}{k:Key}{d:D}{v:V}(q:RD w d v):∀{ds:List (Key×D)} {vs:List (Key×V)},RKV w ds vs→RKV w (ds.map fun kv=>if kv.1=k then(kv.1,d) else kv) (vs.map fun kv=>if kv.1=k then(kv.1,v) else kv)
 | [],vs,h=>by unfold RKV at h;subst h;unfold RKV;rfl
 |(k',d')::ds,vs,h=>by
  unfold RKV at h
  obtain⟨v',r,rfl,h1,h2⟩:=h
  simp only[List.map_cons]
  by_cases e:k'=k
  ·rw[if_pos e,if_pos e]
   unfold RKV
   exact⟨v,_,rfl,q,RKV.repl q h2⟩
  ·rw[if_neg e,if_neg e]
   unfold RKV
   exact⟨v',_,rfl,h1,RKV.repl q h2⟩
theorem RKV.snoc{w:Vw}{k:Key}{d:D}{v:V}(q:RD w d v):∀{ds:List (Key×D)} {vs:List (Key×V)},RKV w ds vs→RKV w (ds++[(k,d)]) (vs++[(k,v)])
 | [],vs,h=>by unfold RKV at h;subst h;unfold RKV;exact⟨v,[],rfl,q,by unfold RKV;rfl⟩
 |(k',d')::ds,vs,h=>by
  unfold RKV at h
  obtain⟨v',r,rfl,h1,h2⟩:=h
  show RKV w ((k',d')::(ds++[(k,d)])) _
  unfold RKV
  exact⟨v',_,rfl,h1,RKV.snoc q h2⟩
theorem RKV.put{w:Vw}{k:Key}{d:D}{v:V}(q:RD w d v){ds:List (Key×D)}{vs:List (Key×V)}(h:RKV w ds vs):RKV w (putD ds k d) (putK vs k v):=by
 unfold putD putK
 rw[h.any k]
 split
 ·exact h.repl q
 ·exact h.snoc q
theorem Vn{w:Vw}{d:D}{k:Key}{v:V}(h:keyD d=some k)(r:RD w d v):v=kV k:=by
 cases d<;>simp[keyD] at h
 ·subst h;exact Zf.mp r
 ·subst h;exact Yb.mp r
section
variable{X:Cx}{w0:Vw}
noncomputable def cmOf:Cm→CmpOp
 | .lt=> .Lt | .le=> .LtE | .gt=> .Gt | .ge=> .GtE | .eq=> .Eq | .ne=> .NotEq | .is=> .Is | .isin=> .In | .notin=> .NotIn
theorem Zx8(hu:X.A.units+64<cLine):OpR X (compareOp .NotEq) (rEqD X.K true):=by
 intro pins s σ H x y v u Q I rx ry h
 obtain⟨da,db,h1,h2,h3,h4,h5,q⟩:=h
 obtain⟨as,q1⟩:=Rep.reads I da x v h1 rx
 obtain⟨bs,q2⟩:=Rep.reads I db y u h2 ry
 exact PySem.SeqAt.compareNe_reads q1 q2 h3 h4 (by omega) ⟨.bl _,H,I,rfl,q⟩
theorem Jc{w:Vw}{pins:List (Addr×Obj)}{σ:L2.St}{s:Shared}{A:Around}{b:List (Key×D)}{vb:List (Key×V)}{ub:List (Key×Value)}(rb:RKV w b vb)(kb:KV vb ub)(fb:(b.all fun kv=>Xc kv.2)=true):
  ∀{a:List (Key×D)} {va:List (Key×V)} {ua:List (Key×Value)},(a.all fun kv=>Xc kv.2)=true→RKV w a va→KV va ua→PySem.W.KeqHits A s ub ua (a.all fun kv=>match valD b kv.1 with
   | some y=>eqF kv.2 y
   | none=>false)
 | [],va,ua,_,h,k=>by
  unfold RKV at h;subst h
  cases k
  exact .nil
 |(k0,d)::a,va,ua,f,h,k=>by
  unfold RKV at h
  obtain⟨v,r,rfl,h1,h2⟩:=h
  simp only[List.all_cons,Bool.and_eq_true] at f
  cases k with
  | @cons _ q _ ur hk kr=>
   obtain⟨k1,u⟩:=q
   obtain⟨e1,e2⟩:=hk
   dsimp only at e1 e2
   subst e1
   have ih:=Jc (A:=A) (s:=s) (pins:=pins) (σ:=σ) rb kb fb f.2 h2 kr
   rw[List.all_cons]
   rcases rb.val k0 with⟨n1,n2⟩ | ⟨y,vy,n1,n2,n3⟩
   ·have hz:=kb.val k0
    rw[n2] at hz
    have hz':valueAt ub k0=none:=RelO.none_of hz
    simp only[n1,Bool.false_and]
    exact .miss hz'
   ·have hz:=kb.val k0
    rw[n2] at hz
    obtain⟨uy,ey,ry⟩:=hz.some_of
    have fy:Xc y=true:=by
     have hm:(k0,y)∈b:=by
      unfold valD at n1
      obtain⟨p,hp,e⟩:=Option.map_eq_some_iff.mp n1
      have:=List.find?_some hp
      have hk:p.1=k0:=of_decide_eq_true this
      have:=List.mem_of_find?_eq_some hp
      rw[←e,←hk];exact this
     exact(List.all_eq_true.mp fb) _ hm
    simp only[n1]
    refine .hit ey ?_ ih
    rw[←Z05 f.1 fy h1 n3]
    exact Zk9 e2 ry (Vx f.1 h1) (Vx fy n3)
theorem Ef(hK:X.K=w0.K)(hu:X.A.units+64<cLine)(neg:Bool):OpR X (compareOp (if neg then .NotEq else .Eq)) (rB w0 fun M x y Q=>eqD M x y fun b=>Q (if neg then !b else b)):=by
 intro pins s σ H x y v u Q I rx ry h
 obtain⟨w,M,dx,dy,QD,rfl,e0,R,hx,hy,g,a⟩:=h
 have key:∀b:Bool,(scal x y=true∧decide (x=y)=b)→QD (if neg then !b else b)→wpAny (model X.prog X.w) X.A (compareOp (if neg then .NotEq else .Eq) v u) (EP X pins σ Q) X.xe s:=by
  rintro b ⟨h1,h2⟩ hq
  cases neg with
  | true=>exact Y73 pins s σ w.H x y v u Q I rx ry ⟨h1,by rw[h2];exact a _ hq⟩
  | false=>exact Y57 pins s σ w.H x y v u Q I rx ry ⟨h1,by rw[h2];exact a _ hq⟩
 unfold eqD at g
 split at g
 ·cases Zf.mp hx;cases Zf.mp hy
  exact key _ ⟨rfl,by simp⟩ g
 ·cases Yb.mp hx;cases Yb.mp hy
  exact key _ ⟨rfl,by simp⟩ g
 ·cases Xx.mp hx;cases Xx.mp hy
  exact key _ ⟨rfl,by simp⟩ g
 ·cases Yc.mp hx;cases Yc.mp hy
  exact key _ ⟨rfl,by simp⟩ g
 ·cases Yc.mp hx;cases Zf.mp hy
  exact key _ ⟨rfl,by simp⟩ g
 ·cases Zf.mp hx;cases Yc.mp hy
  exact key _ ⟨rfl,by simp⟩ g
 ·cases Yc.mp hx;cases Xx.mp hy
  exact key _ ⟨rfl,by simp⟩ g
 ·cases Xx.mp hx;cases Yc.mp hy
  exact key _ ⟨rfl,by simp⟩ g
 ·cases Yc.mp hx;cases Yb.mp hy
  exact key _ ⟨rfl,by simp⟩ g
 ·cases Yb.mp hx;cases Yc.mp hy
  exact key _ ⟨rfl,by simp⟩ g
 ·cases Zf.mp hx;cases Yb.mp hy
  exact key _ ⟨rfl,by simp⟩ g
 ·cases Yb.mp hx;cases Zf.mp hy
  exact key _ ⟨rfl,by simp⟩ g
 ·cases Xx.mp hx;cases Yb.mp hy
  exact key _ ⟨rfl,by simp⟩ g
 ·cases Yb.mp hx;cases Xx.mp hy
  exact key _ ⟨rfl,by simp⟩ g
 ·rcases g with⟨da,db,p1,p2,p3,p4,p5,g⟩ | ⟨m,n,ka,kb,rfl,rfl,p1,p2,f1,f2,g⟩
  ·have q1:=Z42 R da p1 hx
   have q2:=Z42 R db p2 hy
   rw[e0,←hK] at q1 q2
   cases neg with
   | true=>exact Zx8 hu pins s σ w.H x y v u Q I rx ry ⟨da,db,q1,q2,p3,p4,p5,a _ g⟩
   | false=>exact Zw8 hu pins s σ w.H x y v u Q I rx ry ⟨da,db,q1,q2,p3,p4,p5,a _ g⟩
  ·obtain⟨_,rfl⟩:=Zv.mp hx
   obtain⟨_,rfl⟩:=Zv.mp hy
   obtain⟨_,va,ha,ra⟩:=R.dict p1
   obtain⟨_,vb,hb,rb⟩:=R.dict p2
   cases (show v=Value.ref (w.μ m) from rx)
   cases (show u=Value.ref (w.μ n) from ry)
   obtain⟨_,s1,ua,k1,d1⟩:=Jt I.hok ha
   obtain⟨_,s2,ub,k2,d2⟩:=Jt I.hok hb
   have hits:=Jc (A:=X.A.in1) (s:=s) (pins:=pins) (σ:=σ) rb k2 f2 f1 ra k1
   have hl:(ua.length==ub.length&&(ka.all fun kv=>match valD kb kv.1 with
    | some y=>eqF kv.2 y
    | none=>false))=eqKV ka kb:=by
    unfold eqKV
    rw[←k1.length,←k2.length,ra.length,rb.length]
    all_goals rfl
   cases neg with
   | true=>exact PySem.W.keq_ne s1 s2 d1 d2 (by omega) (fun _=>hits) ⟨.bl _,w.H,I,rfl,by rw[hl];exact a _ g⟩
   | false=>exact PySem.W.keq_eq s1 s2 d1 d2 (by omega) (fun _=>hits) ⟨.bl _,w.H,I,rfl,by rw[hl];exact a _ g⟩
theorem Fk(hK:X.K=w0.K)(hu:X.A.units+64<cLine)(neg:Bool):OpR X (compareOp (if neg then .NotIn else .In)) (rB w0 fun M x y Q=>inQ M x y fun b=>Q (if neg then !b else b)):=by
 intro pins s σ H x y v u Q I rx ry h
 obtain⟨w,M,dx,dy,QD,rfl,e0,R,hx,hy,g,a⟩:=h
 have seq:∀{p:Addr} {vs:List V} {xs:List D},y= .ref p→(SqL X.K w.H p vs∨SqT X.K w.H p vs)→RDs w xs vs→Xc dx=true→xs.all Xc=true→QD (if neg then !inD dx xs else inD dx xs)→
   wpAny (model X.prog X.w) X.A (compareOp (if neg then .NotIn else .In) v u) (EP X pins σ Q) X.xe s:=by
  intro p vs xs ey q1 q2 g2 g3 g4
  obtain⟨i1,i2⟩:=Zj1 g2 hx g3 q2
  cases neg with
  | true=>exact J9 pins s σ w.H _ _ v u Q I rx ry ⟨p,vs,ey,q1,Vx g2 hx,i2,by rw[i1];exact a _ g4⟩
  | false=>exact Z12 pins s σ w.H _ _ v u Q I rx ry ⟨p,vs,ey,q1,Vx g2 hx,i2,by rw[i1];exact a _ g4⟩
 unfold inQ at g
 split at g
 ·cases Yb.mp hx;cases Yb.mp hy
  cases neg with
  | true=>exact Nz pins s σ w.H _ _ v u Q I rx ry ⟨_,_,rfl,rfl,a _ g⟩
  | false=>exact Z10 pins s σ w.H _ _ v u Q I rx ry ⟨_,_,rfl,rfl,a _ g⟩
 ·obtain⟨_,rfl⟩:=Zv.mp hy
  rcases g with⟨xs,g1,g2,g3,g4⟩ | ⟨kvs,k,g1,g2,g3⟩
  ·obtain⟨_,vs,q1,q2,_⟩:=R.listL g1
   rw[e0,←hK] at q1
   exact seq rfl (.inl q1) q2 g2 g3 g4
  ·obtain⟨_,vs,q1,q2⟩:=R.dict g1
   cases Vn g2 hx
   cases (show u=Value.ref _ from ry)
   have hv:valV vs k=none∧valD kvs k=none∨∃d v',valD kvs k=some d∧valV vs k=some v':=by
    rcases q2.val k with⟨n1,n2⟩ | ⟨d,v',n1,n2,_⟩
    ·exact .inl ⟨n2,n1⟩
    ·exact .inr ⟨d,v',n1,n2⟩
   have hb:(valV vs k).isSome=(valD kvs k).isSome:=by
    rcases hv with⟨n1,n2⟩ | ⟨d,v',n1,n2⟩
    ·rw[n1,n2];rfl
    ·rw[n1,n2];rfl
   have hu1:X.A.units+1<cLine:=by omega
   cases neg with
   | true=>exact Zr7 hu1 I (DGet.k (k:=k) q1) rx fun s' I'=>⟨.bl (!(valV vs k).isSome),w.H,I',rfl,by rw[hb];exact a _ g3⟩
   | false=>exact d_in hu1 I (DGet.k (k:=k) q1) rx fun s' I'=>⟨.bl (valV vs k).isSome,w.H,I',rfl,by rw[hb];exact a _ g3⟩
 ·obtain⟨p,vs,e,q1,q2⟩:=Xn.mp hy
  exact seq e (.inr (.of q1)) q2 g.1 g.2.1 g.2.2
 ·obtain⟨p,vs,e,q1,q2⟩:=Pu.mp hy
  rw[e0,←hK] at q1
  exact seq e (.inr q1) q2 g.1 g.2.1 g.2.2
 ·exact g.elim
theorem Eu(hK:X.K=w0.K)(hu:X.A.units+64<cLine)(op:Cm):OpR X (compareOp (cmOf op)) (rB w0 fun M=>cmD M op):=by
 intro pins s σ H x y v u Q I rx ry h
 obtain⟨w,M,dx,dy,QD,rfl,e0,R,hx,hy,g,a⟩:=h
 cases op with
 | lt=>
  obtain⟨i,j,rfl,rfl,g2⟩:=Yk g;clear g;have g:=g2
  cases Zf.mp hx;cases Zf.mp hy
  exact Y59 pins s σ w.H _ _ v u Q I rx ry ⟨_,_,rfl,rfl,a _ g⟩
 | le=>
  obtain⟨i,j,rfl,rfl,g2⟩:=Yk g;clear g;have g:=g2
  cases Zf.mp hx;cases Zf.mp hy
  exact Y62 pins s σ w.H _ _ v u Q I rx ry ⟨_,_,rfl,rfl,a _ g⟩
 | gt=>
  obtain⟨i,j,rfl,rfl,g2⟩:=Yk g;clear g;have g:=g2
  cases Zf.mp hx;cases Zf.mp hy
  exact Y85 pins s σ w.H _ _ v u Q I rx ry ⟨_,_,rfl,rfl,a _ g⟩
 | ge=>
  obtain⟨i,j,rfl,rfl,g2⟩:=Yk g;clear g;have g:=g2
  cases Zf.mp hx;cases Zf.mp hy
  exact Y58 pins s σ w.H _ _ v u Q I rx ry ⟨_,_,rfl,rfl,a _ g⟩
 | eq=>
  exact Ef hK hu false pins s σ w.H x y v u Q I rx ry ⟨w,M,_,_,QD,rfl,e0,R,hx,hy,g,a⟩
 | ne=>
  exact Ef hK hu true pins s σ w.H x y v u Q I rx ry ⟨w,M,_,_,QD,rfl,e0,R,hx,hy,g,a⟩
 | is=>
  cases dy with
  | non=>
   cases dx with
   | non=>
    cases Yc.mp hx;cases Yc.mp hy
    exact Rv pins s σ w.H _ _ v u Q I rx ry ⟨rfl,a _ g⟩
   | bl b=>
    cases Xx.mp hx;cases Yc.mp hy
    exact Rv pins s σ w.H _ _ v u Q I rx ry ⟨rfl,a _ g⟩
   | int i=>
    cases Zf.mp hx;cases Yc.mp hy
    exact Rv pins s σ w.H _ _ v u Q I rx ry ⟨rfl,a _ g⟩
   | str z=>
    cases Yb.mp hx;cases Yc.mp hy
    exact Rv pins s σ w.H _ _ v u Q I rx ry ⟨rfl,a _ g⟩
   | tup l=>
    obtain⟨_,_,rfl,_⟩:=Xn.mp hx;cases Yc.mp hy
    exact Rv pins s σ w.H _ _ v u Q I rx ry ⟨rfl,a _ g⟩
   | ref n=>
    obtain⟨_,rfl⟩:=Zv.mp hx;cases Yc.mp hy
    exact Rv pins s σ w.H _ _ v u Q I rx ry ⟨rfl,a _ g⟩
   | exn e C d q=>
    obtain⟨rfl,_⟩:=Er.mp hx;cases Yc.mp hy
    exact Rv pins s σ w.H _ _ v u Q I rx ry ⟨rfl,a _ g⟩
   | _=>exact False.elim g
  | _=>exact False.elim g
 | isin=>
  exact Fk hK hu false pins s σ w.H x y v u Q I rx ry ⟨w,M,_,_,QD,rfl,e0,R,hx,hy,g,a⟩
 | notin=>
  exact Fk hK hu true pins s σ w.H x y v u Q I rx ry ⟨w,M,_,_,QD,rfl,e0,R,hx,hy,g,a⟩
end
theorem RKV.isEmpty{w:Vw}{ds:List (Key×D)}{vs:List (Key×V)}(h:RKV w ds vs):vs.isEmpty=ds.isEmpty:=by
 cases ds with
 | nil=>unfold RKV at h;subst h;rfl
 | cons p ds=>obtain⟨k,d⟩:=p;unfold RKV at h;obtain⟨v,r,rfl,_⟩:=h;rfl
theorem RDs.isEmpty{w:Vw}{ds:List D}{vs:List V}(h:RDs w ds vs):vs.isEmpty=ds.isEmpty:=by
 cases ds with
 | nil=>unfold RDs at h;subst h;rfl
 | cons d ds=>unfold RDs at h;obtain⟨v,r,rfl,_⟩:=h;rfl
theorem Vy{K:PySem.W.Frag}{w:Vw}{M:Z0}{d:D}{x:V}{QD:Bool→Prop}(hK:w.K=K)(R:RS w M)(r:RD w d x)(g:truD M d QD):∃k,TruV K x w.H k∧QD k:=by
 unfold truD at g
 split at g
 ·cases Yc.mp r;exact⟨_,rfl,g⟩
 ·cases Xx.mp r;exact⟨_,rfl,g⟩
 ·cases Zf.mp r;exact⟨_,rfl,g⟩
 ·cases Yb.mp r;exact⟨_,⟨g.1,rfl⟩,g.2⟩
 ·obtain⟨a,vs,rfl,q1,q2⟩:=Xn.mp r
  exact⟨_,.inr (.inl ⟨vs,.of q1,rfl⟩),by rw[q2.isEmpty];exact g⟩
 ·obtain⟨_,rfl⟩:=Zv.mp r
  rcases g with⟨xs,g1,g2⟩ | ⟨xs,g1,g2⟩
  ·obtain⟨_,vs,q1,q2,_⟩:=R.listL g1
   rw[hK] at q1
   exact⟨_,.inl ⟨vs,q1,rfl⟩,by rw[q2.isEmpty];exact g2⟩
  ·obtain⟨_,vs,q1,q2⟩:=R.dict g1
   exact⟨_,.inr (.inr ⟨vs,q1,rfl⟩),by rw[q2.isEmpty];exact g2⟩
 ·exact g.elim
theorem Gj{w:Vw}{xs:List D}{vs:List V}{i:Int}{d:D}(r:RDs w xs vs)(h:atI xs i=some d):∃v,atI vs i=some v∧RD w d v:=by
 unfold atI at *
 rw[r.length]
 obtain⟨j,h1,h2⟩:=Option.bind_eq_some_iff.mp h
 obtain⟨v,q1,q2⟩:=r.get h2
 exact⟨v,by rw[h1];exact q1,q2⟩
theorem Z52{w:Vw}{xs:List D}{vs:List V}{lo hi:Option Int}(r:RDs w xs vs):RDs w (cutD xs lo hi) (cutV vs lo hi):=by
 unfold cutD cutV
 rw[r.length]
 exact(r.drop _).take _
section
variable{X:Cx}{w0:Vw}
theorem Zr6(hu:X.A.units+1<cLine):IxR X (fun x y H Q=>∃a v,x= .ref a∧DGet H a y (some v)∧Q v H):=by
 intro value slice pins s σ H x y v u Q I rx ry h hs
 obtain⟨a,vv,rfl,g,q⟩:=h
 cases rx
 have hT:=Gb I g
 have h₂:wpAny (model X.prog X.w) X.A (getItem (.ref a) u) (EP X pins σ Q) X.xe s:=Z88 hu I g ry fun w' s3 I3 rw'=>⟨vv,H,I3,rw',q⟩
 unfold subscriptTail
 refine wpAny_bind ?_
 rw[getitemInPython_of_ne hT.not_modules]
 refine wpAny_bind (wpAny_specialOf hT PySem.F.slot_dict_getitem.lookup ?_)
 have fin:wpAny (model X.prog X.w) X.A (subscripted slice false (.ref a) u) (fun r s₃=>wpAny (model X.prog X.w) X.A (letTemporaryGo value (.ref a) r >>=fun _=>pure r) (EP X pins σ Q) X.xe s₃) X.xe s:=by
  rw[hs]
  exact wpAny_operating (wpAny_mono h₂ (fun r s₃ h₃=>wpAny_bind (wpAny_letTemporaryGo (wpAny_pure h₃))) fun _ _ x=>x)
 first
  | exact wpAny_pure (wpAny_bind fin)
  | exact wpAny_bind (wpAny_pure (wpAny_bind fin))
  | exact wpAny_bind fin
def rX(w0:Vw):R2:=fun x y H Q=>∃w M dx dy QD,w.H=H∧w.K=w0.K∧RS w M∧RD w dx x∧RD w dy y∧ixD M dx dy QD∧∀d v,QD d→RD w d v→Q v H
theorem Zi0(hK:X.K=w0.K)(hu:X.A.units+64<cLine):IxR X (rX w0):=by
 intro value slice pins s σ H x y v u Q I rx ry h hs
 obtain⟨w,M,dx,dy,QD,rfl,e0,R,hx,hy,g,a⟩:=h
 unfold ixD at g
 split at g
 ·obtain⟨_,rfl⟩:=Zv.mp hx
  rcases g with⟨xs,i,d,rfl,g1,g2,g3⟩ | ⟨kvs,k,d,g1,g2,g3,g4⟩
  ·cases Zf.mp hy
   obtain⟨_,vs,q1,q2,_⟩:=R.listL g1
   rw[e0,←hK] at q1
   obtain⟨vv,z1,z2⟩:=Gj q2 g2
   exact Zm4 value slice pins s σ w.H _ _ v u Q I rx ry ⟨_,vs,i,vv,rfl,rfl,q1,z1,a _ _ g3 z2⟩ hs
  ·obtain⟨vs,q1,q2⟩:=R.dictF g1
   cases Vn g2 hy
   rcases q2.val k with⟨n1,n2⟩ | ⟨d',v',n1,n2,n3⟩
   ·rw[n1] at g3;cases g3
   ·rw[n1] at g3;cases g3
    refine Zr6 (by omega) value slice pins s σ w.H _ _ v u Q I rx ry ⟨_,v',rfl,?_,a _ _ g4 n3⟩ hs
    have:DGet w.H (w.μ _) (kV k) (valV vs k):= .inl ⟨vs,k,q1,rfl,rfl⟩
    rw[n2] at this
    exact this
 ·cases Zf.mp hy
  obtain⟨p,vs,rfl,q1,q2⟩:=Xn.mp hx
  obtain⟨d,g1,g2⟩:=g
  obtain⟨vv,z1,z2⟩:=Gj q2 g1
  exact Zk4 value slice pins s σ w.H _ _ v u Q I rx ry ⟨_,vs,_,vv,rfl,rfl,.of q1,z1,a _ _ g2 z2⟩ hs
 ·cases Zf.mp hy
  obtain⟨p,vs,rfl,q1,q2⟩:=Pu.mp hx
  rw[e0,←hK] at q1
  obtain⟨d,g1,g2⟩:=g
  obtain⟨vv,z1,z2⟩:=Gj q2 g1
  exact Zk4 value slice pins s σ w.H _ _ v u Q I rx ry ⟨_,vs,_,vv,rfl,rfl,q1,z1,a _ _ g2 z2⟩ hs
 ·cases Zf.mp hy;cases Yb.mp hx
  obtain⟨g0,c,g1,g2⟩:=g
  exact Zw5 value slice pins s σ w.H _ _ v u Q I rx ry ⟨_,_,c,rfl,rfl,g0,g1,a _ _ g2 (Yb.mpr rfl)⟩ hs
 ·exact g.elim
theorem Zv6:SlR X (fun x lo hi H Q=>∃z,x= .str z∧z.length≤sizeLine∧Q (.str (Txt.slice z lo hi)) H):=by
 intro pins s σ H x v vl vu lo hi sl Q I rx hs pl pu h
 obtain⟨z,rfl,hz,q⟩:=h
 obtain⟨t,rfl⟩:=rx
 have key:∀l u:Option (Int×Tok),l.map (·.1)=lo→u.map (·.1)=hi→vl=partValue l→vu=partValue u→wpAny (model X.prog X.w) X.A (getItem (.str z t) (.ref sl)) (EP X pins σ Q) X.xe s:=by
  intro l u e1 e2 e3 e4
  subst e1 e2 e3 e4
  refine wpAny_getItem_str_slice (l:=l) (u:=u) (st:=none) hs rfl ?_
  exact post_val_or_str ⟨Nat.le_trans (Txt.slice_le z _ _) hz,fun t' k=>⟨.str (Txt.slice z _ _),H,I.tok _,⟨_,rfl⟩,q⟩⟩
 refine⟨"str",_,PySem.F.slot_str_getitem.lookup,typeIs_str _ _ _,?_⟩
 cases pl with
 | none=>
  cases pu with
  | none=>exact key none none rfl rfl rfl rfl
  | int j tj=>exact key none (some (j,tj)) rfl rfl rfl rfl
 | int i ti=>
  cases pu with
  | none=>exact key (some (i,ti)) none rfl rfl rfl rfl
  | int j tj=>exact key (some (i,ti)) (some (j,tj)) rfl rfl rfl rfl
def rSl(w0:Vw):V→Option Int→Option Int→Hp→VK→Prop:=fun x lo hi H Q=>∃w M dx QD,w.H=H∧w.K=w0.K∧RS w M∧RD w dx x∧slD dx lo hi M QD∧Aft w QD Q
theorem Z98(hK:X.K=w0.K):SlR X (rSl w0):=by
 intro pins s σ H x v vl vu lo hi sl Q I rx hs pl pu h
 obtain⟨w,M,dx,QD,rfl,e0,R,hx,g,a⟩:=h
 unfold slD at g
 split at g
 ·cases Yb.mp hx
  exact Zv6 pins s σ w.H _ v vl vu _ _ sl Q I rx hs pl pu ⟨_,rfl,g.1,a _ w _ M (Ext.refl w) R (Yb.mpr rfl) g.2⟩
 ·obtain⟨_,rfl⟩:=Zv.mp hx
  obtain⟨xs,g1,g2⟩:=g
  obtain⟨_,vs,q1,q2,_⟩:=R.listL g1
  rw[e0,←hK] at q1
  refine Zq1 pins s σ w.H _ v vl vu _ _ sl Q I rx hs pl pu ⟨_,vs,rfl,q1,fun p hp=>?_⟩
  obtain⟨x1,x2,x3⟩:=W7 R hp (Z52 (lo:=lo) (hi:=hi) q2)
  exact a _ _ _ _ x1 x2 x3 g2
 ·obtain⟨p,vs,rfl,q1,q2⟩:=Xn.mp hx
  refine Y38 pins s σ w.H _ v vl vu _ _ sl Q I rx hs pl pu ⟨_,vs,rfl,.of q1,by rw[q2.length];exact g.1,fun p hp=>?_⟩
  obtain⟨x1,x2,x3⟩:=Te R hp (Z52 (lo:=lo) (hi:=hi) q2)
  exact a _ _ _ _ x1 x2 x3 g.2
 ·exact g.elim
def rC(w0:Vw)(g:List D→Z0→DK→Prop):List V→Hp→VK→Prop:=fun xs H Q=>∃w M ds QD,w.H=H∧w.K=w0.K∧RS w M∧RDs w ds xs∧g ds M QD∧Aft w QD Q
noncomputable def bfOf:Bf→Str×Value
 | .len=>("len",.builtin "len") | .isinst=>("isinstance",.builtin "isinstance") | .min2=>("min",.builtin "min") | .max2=>("max",.builtin "max")
 | .list1=>("list",.type "list") | .tuple1=>("tuple",.type "tuple") | .dict1=>("dict",.type "dict") | .sorted1=>("sorted",.builtin "sorted")
theorem rds1{w:Vw}{d:D}{xs:List V}(h:RDs w [d] xs):∃v,xs=[v]∧RD w d v:=by
 unfold RDs at h
 obtain⟨v,r,rfl,h1,h2⟩:=h
 unfold RDs at h2
 subst h2
 exact⟨v,rfl,h1⟩
theorem rds2{w:Vw}{d e:D}{xs:List V}(h:RDs w [d,e] xs):∃v u,xs=[v,u]∧RD w d v∧RD w e u:=by
 unfold RDs at h
 obtain⟨v,r,rfl,h1,h2⟩:=h
 obtain⟨u,rfl,h3⟩:=rds1 h2
 exact⟨v,u,rfl,h1,h3⟩
theorem rds0{w:Vw}{xs:List V}(h:RDs w [] xs):xs=[]:=by unfold RDs at h;exact h
theorem Z06{w:Vw}:∀{as:List Addr} {vs:List V},RDs w (as.map D.cls) vs→vs=as.map V.ref
 | [],vs,h=>rds0 h
 | a::r,vs,h=>by
  rw[List.map_cons] at h
  unfold RDs at h
  obtain⟨v,vs',rfl,h1,h2⟩:=h
  rw[Rt.mp h1,Z06 h2]
  rfl
def Y80(K:PySem.W.Frag):List V→Hp→VK→Prop:=fun xs H Q=>∃(e C dx:Addr) (fs:List (Str×V)) (p:Addr) (as:List Addr) (b:Bool),xs=[.ref e,.ref p]∧H e=some (XO e (.ref C) (some dx))∧H dx=some (.xd fs)∧ExcIs K C∧H p=some (.tup (as.map V.ref))∧PySem.W.kitAny K (.ref C) (as.map Value.ref)=some b∧Q (.bl b) H
theorem Oy:∀{as:List Addr} {us:List Value},Vals (as.map V.ref) us→us=as.map Value.ref
 | [],us,h=>by cases h;rfl
 | a::r,us,h=>by
  cases h with
  | cons h1 h2=>
   obtain rfl:_=Value.ref a:=h1
   rw[Oy h2]
   rfl
theorem Z45{X:Cx}:Vj X (.builtin "isinstance") (Y80 X.K):=by
 intro pins s σ H xs us Q I r h
 obtain⟨e,C,dx,fs,p,as,b,rfl,he,hd,S,hp,k,q⟩:=h
 obtain⟨u,v,rfl,ru,rv⟩:=Jk r
 obtain rfl:u=Value.ref e:=ru
 obtain rfl:v=Value.ref p:=rv
 obtain⟨oe,od,mA,J,_⟩:=Ec I he hd
 obtain⟨its,r',⟨⟨oc,odd,dat,sl⟩,g1,g2,n,g3⟩,hz⟩:=I.tuple (.of hp)
 cases Oy r'
 dsimp only at g2 g3
 subst g2 g3
 exact PySem.W.kia_tup (Ep S) I.kIn J g1 k (fun z=>nomatch z) fun tk=>⟨.bl b,H,I.tok tk,rfl,q⟩
theorem Y01{K:PySem.W.Frag}{w:Vw}{M:Z0}{d:D}{x:V}{t:String}(R:RS w M)(r:RD w d x)(h:tyD M d=some t):TyOf K w.H x (.type t):=by
 unfold tyD at h
 split at h
 ·cases h;cases Yc.mp r;exact .non
 ·cases h;cases Xx.mp r;exact .bl _
 ·cases h;cases Zf.mp r;exact .int _
 ·cases h;cases Yb.mp r;exact .str _
 ·cases h;obtain⟨a,vs,rfl,q,_⟩:=Xn.mp r;exact .tup q
 ·obtain⟨_,rfl⟩:=Zv.mp r
  split at h
  ·rename_i e;cases h;obtain⟨vs,q,_⟩:=R.cell _ _ e;exact .lst q
  ·cases h
  ·rename_i e;cases h;obtain⟨vs,q,_⟩:=R.cell _ _ e;exact .dK q
  ·cases h
  ·cases h
 ·cases h
theorem Ey:Vj X (.type "dict") (fun xs H Q=>∃a kvs,xs=[V.ref a]∧H a=some (.dK kvs)∧∀p,H p=none→Q (.ref p) (upd H p (.dK kvs))):=by
 intro pins s σ H xs us Q I r h
 obtain⟨a,kvs,rfl,e,q⟩:=h
 obtain⟨u,rfl,ru⟩:=Q4 r
 cases ru
 exact Zd3 I (.inl e) fun p s' hp I'=>⟨.ref p,_,I',rfl,q p hp⟩
theorem En{w:Vw}:∀{ps:List (Key×D)} {vs:List V},RDs w (Xv ps) vs→∃qs,Jf w.K w.H vs qs∧RKV w ps qs
 | [],vs,h=>by
  cases vs with
  | nil=>exact⟨[],trivial,by unfold RKV;rfl⟩
  | cons _ _=>have:=h.length;simp[Xv] at this
 | p::ps,vs,h=>by
  change RDs w (D.tup [kD p.1,p.2]::Xv ps) vs at h
  unfold RDs at h
  obtain⟨v,vr,rfl,r1,r2⟩:=h
  obtain⟨t,us,rfl,q1,q2⟩:=Xn.mp r1
  obtain⟨u1,u2,rfl,s1,s2⟩:=rds2 q2
  obtain⟨qs,h1,h2⟩:=En r2
  have e:u1=kV p.1:=by
   cases hk:p.1 with
   | inl i=>rw[hk] at s1;exact Zf.mp s1
   | inr x=>rw[hk] at s1;exact Yb.mp s1
  subst e
  exact⟨(p.1,u2)::qs,⟨⟨t,rfl,.of q1⟩,h1⟩,by unfold RKV;exact⟨u2,qs,rfl,s2,h2⟩⟩
theorem Em{w:Vw}:∀{ps:List (Key×D)} {qs:List (Key×V)} {ds:List (Key×D)} {vs:List (Key×V)},RKV w ps qs→RKV w ds vs→RKV w (ps.foldl (fun m p=>putD m p.1 p.2) ds) (qs.foldl (fun m p=>putK m p.1 p.2) vs)
 | [],qs,ds,vs,h,g=>by unfold RKV at h;subst h;exact g
 | p::ps,qs,ds,vs,h,g=>by
  unfold RKV at h
  obtain⟨v,r,rfl,h1,h2⟩:=h
  rw[List.foldl_cons,List.foldl_cons]
  exact Em (ps:=ps) (qs:=r) h2 (RKV.put (k:=p.1) h1 g)
noncomputable def Vo:Bf→Bool
 | .min2 | .max2 | .dict1 | .sorted1=>false
 | _=>true
theorem E3{w:Vw}:∀{ds:List (Key×D)} {vs:List (Key×V)},RKV w ds vs→vs.map (·.1)=ds.map (·.1)
 | [],vs,h=>by unfold RKV at h;subst h;rfl
 |(k,d)::ds,vs,h=>by
  unfold RKV at h
  obtain⟨v,r,rfl,_,h2⟩:=h
  rw[List.map_cons,List.map_cons,E3 h2]
theorem Ei{w:Vw}:∀ns:List Str,RDs w (ns.map .str) (ns.map V.str)
 | []=>RDs.nil w
 | n::ns=>RDs.cons (Yb.mpr rfl) (Ei ns)
theorem Zh9(hK:X.K=w0.K)(b:Bf)(hc:X.calm=true∨Vo b=true):Vj X (bfOf b).2 (rC w0 (bfD w0.K b)):=by
 intro pins s σ H xs us Q I r h
 obtain⟨w,M,ds,QD,rfl,e0,R,hx,g,a⟩:=h
 cases b with
 | len=>
  obtain⟨x,rfl,g2⟩:=Vl g;clear g;have g:=g2
  cases x with
  | ref n=>
   obtain⟨v,rfl,r1⟩:=rds1 hx
   obtain⟨_,rfl⟩:=Zv.mp r1
   rcases g with⟨xs,g1,g2⟩ | ⟨xs,g1,g2⟩
   ·obtain⟨_,vs,q1,q2,_⟩:=R.listL g1
    rw[e0,←hK] at q1
    exact Th pins s σ w.H _ us Q I r ⟨_,vs,rfl,.inl q1,a _ w _ M (Ext.refl w) R (Zf.mpr (by rw[q2.length])) g2⟩
   ·obtain⟨_,vs,q1,q2⟩:=R.dict g1
    exact Z54 pins s σ w.H _ us Q I r ⟨_,vs,rfl,q1,a _ w _ M (Ext.refl w) R (Zf.mpr (by rw[q2.length])) g2⟩
  | tup l=>
   obtain⟨v,rfl,r1⟩:=rds1 hx
   obtain⟨p,vs,rfl,q1,q2⟩:=Xn.mp r1
   exact Th pins s σ w.H _ us Q I r ⟨_,vs,rfl,.inr (.of q1),a _ w _ M (Ext.refl w) R (Zf.mpr (by rw[q2.length])) g⟩
  | str z=>
   obtain⟨v,rfl,r1⟩:=rds1 hx
   cases Yb.mp r1
   exact Np pins s σ w.H _ us Q I r ⟨_,rfl,g.1,a _ w _ M (Ext.refl w) R (Zf.mpr rfl) g.2⟩
  | _=>exact False.elim g
 | isinst=>
  obtain⟨x,y,rfl,g2⟩:=R7 g;clear g;have g:=g2
  obtain⟨v,u,rfl,r1,r2⟩:=rds2 hx
  unfold isD at g
  split at g
  ·obtain⟨b,g1,g2,g3⟩:=g
   obtain⟨rfl,q1,row,q2,q3⟩:=Er.mp r1
   cases Rt.mp r2
   rw[←hK] at g1 g2
   exact Gq pins s σ w.H _ us Q I r ⟨_,_,_,_,_,_,b,rfl,q1,q2,g1,fun u hu=>hu,g2,a _ w _ M (Ext.refl w) R (Xx.mpr rfl) g3⟩
  ·obtain⟨b,g1,g2,g3⟩:=g
   obtain⟨rfl,q1,row,q2,q3⟩:=Er.mp r1
   cases Zp4.mp r2
   rw[←hK] at g1 g2
   exact Gq pins s σ w.H _ us Q I r ⟨_,_,_,_,_,_,b,rfl,q1,q2,g1,fun u hu=>hu,g2,a _ w _ M (Ext.refl w) R (Xx.mpr rfl) g3⟩
  ·obtain⟨as,b,rfl,g1,g2,g3⟩:=g
   obtain⟨rfl,q1,row,q2,q3⟩:=Er.mp r1
   obtain⟨p,vs,rfl,q4,q5⟩:=Xn.mp r2
   cases Z06 q5
   rw[←hK] at g1 g2
   exact Z45 pins s σ w.H _ us Q I r ⟨_,_,_,_,_,_,b,rfl,q1,q2,g1,q4,g2,a _ w _ M (Ext.refl w) R (Xx.mpr rfl) g3⟩
  ·obtain⟨t,b,g1,g2,g3⟩:=g
   cases Zp4.mp r2
   rw[←hK] at g2
   exact Ze3 pins s σ w.H _ us Q I r ⟨_,_,_,b,rfl,Y01 R r1 g1,g2,a _ w _ M (Ext.refl w) R (Xx.mpr rfl) g3⟩
  ·exact g.elim
 | min2=>
  obtain⟨x,y,rfl,g2⟩:=R7 g;clear g;have g:=g2
  obtain⟨i,j,rfl,rfl,g2⟩:=Yk g;clear g;have g:=g2
  obtain⟨v,u,rfl,r1,r2⟩:=rds2 hx
  cases Zf.mp r1;cases Zf.mp r2
  exact Z83 (hc.resolve_right (by simp[Vo])) pins s σ w.H _ us Q I r ⟨_,_,rfl,a _ w _ M (Ext.refl w) R (Zf.mpr rfl) g⟩
 | max2=>
  obtain⟨x,y,rfl,g2⟩:=R7 g;clear g;have g:=g2
  obtain⟨i,j,rfl,rfl,g2⟩:=Yk g;clear g;have g:=g2
  obtain⟨v,u,rfl,r1,r2⟩:=rds2 hx
  cases Zf.mp r1;cases Zf.mp r2
  exact Z89 (hc.resolve_right (by simp[Vo])) pins s σ w.H _ us Q I r ⟨_,_,rfl,a _ w _ M (Ext.refl w) R (Zf.mpr rfl) g⟩
 | list1=>
  obtain⟨x,rfl,g2⟩:=Vl g;clear g;have g:=g2
  obtain⟨v,rfl,r1⟩:=rds1 hx
  obtain⟨xs,g1,g2⟩:=g
  have:∃p vs,v= .ref p∧(SqL X.K w.H p vs∨SqT X.K w.H p vs)∧RDs w xs vs:=by
   rw[hK,←e0]
   unfold Z01 at g1
   split at g1
   ·obtain⟨_,rfl⟩:=Zv.mp r1
    obtain⟨_,vs,q1,q2,_⟩:=R.listL g1
    exact⟨_,vs,rfl,.inl q1,q2⟩
   ·cases g1
    obtain⟨p,vs,rfl,q1,q2⟩:=Xn.mp r1
    exact⟨_,vs,rfl,.inr (.of q1),q2⟩
   ·cases g1
    obtain⟨p,vs,rfl,q1,q2⟩:=Pu.mp r1
    exact⟨_,vs,rfl,.inr q1,q2⟩
   ·cases g1
  obtain⟨p,vs,rfl,q1,q2⟩:=this
  refine Ji pins s σ w.H _ us Q I r ⟨p,vs,rfl,q1,fun l hl=>?_⟩
  obtain⟨x1,x2,x3⟩:=W7 R hl q2
  exact a _ _ _ _ x1 x2 x3 g2
 | tuple1=>
  obtain⟨x,rfl,g2⟩:=Vl g;clear g;have g:=g2
  obtain⟨n,rfl,g2⟩:=Xg g;clear g;have g:=g2
  obtain⟨v,rfl,r1⟩:=rds1 hx
  obtain⟨_,rfl⟩:=Zv.mp r1
  obtain⟨xs,g1,g2⟩:=g
  obtain⟨_,vs,q1,q2,_⟩:=R.listL g1
  rw[e0,←hK] at q1
  refine Pl pins s σ w.H _ us Q I r ⟨_,vs,rfl,.inl ⟨q1,fun l hl=>?_⟩⟩
  obtain⟨x1,x2,x3⟩:=Te R hl q2
  exact a _ _ _ _ x1 x2 x3 g2
 | dict1=>
  obtain⟨x,rfl,g2⟩:=Vl g;clear g;have g:=g2
  obtain⟨n,rfl,g2⟩:=Xg g;clear g;have g:=g2
  obtain⟨v,rfl,r1⟩:=rds1 hx
  obtain⟨_,rfl⟩:=Zv.mp r1
  rcases g with⟨xs,g1,g2⟩ | ⟨ps,g1,g2,g3⟩
  ·obtain⟨_,vs,q1,q2⟩:=R.dict g1
   refine Ey pins s σ w.H _ us Q I r ⟨_,vs,rfl,q1,fun l hl=>?_⟩
   obtain⟨x1,x2,x3⟩:=T2 R hl q2
   exact a _ _ _ _ x1 x2 x3 g2
  ·obtain⟨_,vs,q1,q2,_⟩:=R.listL g1
   obtain⟨qs,z1,z2⟩:=En q2
   have hl2:=q2.length
   unfold Xv at hl2
   rw[List.length_map] at hl2
   rw[e0,←hK] at q1 z1
   refine Cs (hc.resolve_right (by simp[Vo])) pins s σ w.H _ us Q I r ⟨_,vs,qs,rfl,q1,z1,by omega,fun l hl=>?_⟩
   obtain⟨x1,x2,x3⟩:=T2 R hl (Em z2 (show RKV w [] [] by unfold RKV;rfl))
   exact a _ _ _ _ x1 x2 x3 g3
 | sorted1=>
  obtain⟨x,rfl,g2⟩:=Vl g;clear g;have g:=g2
  obtain⟨n,rfl,g2⟩:=Xg g;clear g;have g:=g2
  obtain⟨v,rfl,r1⟩:=rds1 hx
  obtain⟨_,rfl⟩:=Zv.mp r1
  obtain⟨kvs,ns,g1,g2,g3,g4⟩:=g
  obtain⟨_,vs,q1,q2⟩:=R.dict g1
  refine Nm (hc.resolve_right (by simp[Vo])) pins s σ w.H _ us Q I r ⟨_,vs,ns,rfl,q1,(E3 q2).trans g2,g3,fun l ms hl h1 h2=>?_⟩
  obtain⟨x1,x2,x3⟩:=W7 R hl (Ei ms)
  exact a _ _ _ _ x1 x2 x3 (g4 ms h1 h2)
end
noncomputable def mtT:Mt→String
 | .clearD=>"dict"
 | .append | .pop0 | .reverse=>"list"
 | .get2=>"dict"
noncomputable def mtN:Mt→Str
 | .clearD=>"clear"
 | .append=>"append" | .pop0=>"pop" | .reverse=>"reverse" | .get2=>"get"
noncomputable def mtI:Mt→String
 | .clearD=>"dict.clear"
 | .append=>"list.append" | .pop0=>"list.pop" | .reverse=>"list.reverse" | .get2=>"dict.get"
theorem Y18:∀m:Mt,PlainAttrs (mtT m)
 | .clearD=>PySem.F.plainAttrs_dict
 | .append | .pop0 | .reverse=>PySem.F.plainAttrs_list
 | .get2=>PySem.F.plainAttrs_dict
theorem Z75:∀m:Mt,Slot (mtT m) (mtN m) (mtI m)
 | .clearD=>PySem.F.slot_dict_clear
 | .append=>PySem.F.slot_list_append | .pop0=>PySem.F.slot_list_pop | .reverse=>PySem.F.slot_list_reverse
 | .get2=>PySem.F.slot_dict_get
theorem Zz4:∀m:Mt,typeOf (.builtin (mtI m))=pure (.type "method_descriptor")
 | .clearD=>PySem.F.type_dict_clear
 | .append=>PySem.F.type_list_append | .pop0=>PySem.F.type_list_pop | .reverse=>PySem.F.type_list_reverse
 | .get2=>PySem.F.type_dict_get
def rM(w0:Vw)(m:Mt):V→List V→Hp→VK→Prop:=fun x xs H Q=>∃w M dx ds QD,w.H=H∧w.K=w0.K∧RS w M∧RD w dx x∧RDs w ds xs∧mtD m dx ds M QD∧Aft w QD Q
theorem Zk6{w:Vw}{M:Z0}{m:Mt}{d:D}{x:V}(R:RS w M)(r:RD w d x)(h:mtK m d M):tyV w.K (mtT m) x w.H:=by
 have L:∀{n:Nat},RD w (.ref n) x→(Za M n).isSome=true→tyV w.K "list" x w.H:=by
  intro n r h
  obtain⟨_,rfl⟩:=Zv.mp r
  obtain⟨xs,e⟩:=Option.isSome_iff_exists.mp h
  obtain⟨_,vs,q1,_⟩:=R.listL e
  exact .inl ⟨rfl,vs,q1⟩
 have K:∀{n:Nat},RD w (.ref n) x→(Zd M n).isSome=true→tyV w.K "dict" x w.H:=by
  intro n r h
  obtain⟨_,rfl⟩:=Zv.mp r
  obtain⟨xs,e⟩:=Option.isSome_iff_exists.mp h
  obtain⟨_,vs,q1,_⟩:=R.dict e
  exact .inr (.inr (.inl ⟨rfl,.inl ⟨vs,q1⟩⟩))
 obtain⟨n,rfl,h⟩:=Xg h
 cases m with
 | clearD=>exact K r h
 | get2=>exact K r h
 | _=>exact L r h
theorem RDs.dropLast{w:Vw}{xs:List D}{vs:List V}(r:RDs w xs vs):RDs w xs.dropLast vs.dropLast:=by
 rw[List.dropLast_eq_take,List.dropLast_eq_take,r.length]
 exact r.take _
section
variable{X:Cx}{w0:Vw}
theorem Zb6(hK:X.K=w0.K)(hu:X.A.units+64<cLine)(m:Mt):MtR X (mtI m) (rM w0 m):=by
 intro pins s σ H x xs v us Q I rx r h
 obtain⟨w,M,dx,ds,QD,rfl,e0,R,hx,hs,g,a⟩:=h
 obtain⟨n,rfl,g2⟩:=Xg g;clear g;have g:=g2
 cases m with
 | append=>
  obtain⟨x,rfl,g2⟩:=Vl g;clear g;have g:=g2
  obtain⟨_,rfl⟩:=Zv.mp hx
  obtain⟨y,rfl,ry⟩:=rds1 hs
  obtain⟨ds,g1,g2,g3⟩:=g
  obtain⟨hn,vs,q1,q2⟩:=R.list g1
  obtain⟨x1,x2⟩:=We R hn q1 (q2.append (RDs.cons ry (RDs.nil w)))
  exact Rh pins s σ w.H _ _ v us Q I rx r ⟨_,vs,y,rfl,rfl,q1,by rw[q2.length];exact g2,a _ _ _ _ x1 x2 (Yc.mpr rfl) g3⟩
 | clearD=>
  obtain⟨rfl,g2⟩:=Pp g;clear g;have g:=g2
  obtain⟨_,rfl⟩:=Zv.mp hx
  cases rds0 hs
  obtain⟨kvs,g1,g3⟩:=g
  obtain⟨hn,vs,q1,q2⟩:=R.dict g1
  obtain⟨x1,x2⟩:=Vg (vs:=[]) (xs:=[]) R hn q1 (by unfold RKV;rfl)
  cases (show v=Value.ref _ from rx)
  cases r
  refine Zt1 I q1 fun s' I'=>⟨.non,_,I',rfl,?_⟩
  exact a _ _ _ _ x1 x2 (Yc.mpr rfl) g3
 | get2=>
  obtain⟨x,y,rfl,g2⟩:=R7 g;clear g;have g:=g2
  obtain⟨_,rfl⟩:=Zv.mp hx
  obtain⟨y,z,rfl,ry,rz⟩:=rds2 hs
  obtain⟨kvs,k,g1,g2,g3⟩:=g
  obtain⟨hn,vs,q1,q2⟩:=R.dict g1
  obtain⟨u,u2,rfl,ru,ru2⟩:=Jk r
  cases (show v=Value.ref _ from rx)
  cases Vn g2 ry
  refine Y16 (by omega) I (DGet.k (k:=k) q1) ru ru2 fun w' s' I' rw'=>⟨_,w.H,I',rw',?_⟩
  rcases q2.val k with⟨n1,n2⟩ | ⟨d',v',n1,n2,n3⟩
  ·rw[n1] at g3
   rw[n2]
   exact a _ w _ M (Ext.refl w) R rz g3
  ·rw[n1] at g3
   rw[n2]
   exact a _ w _ M (Ext.refl w) R n3 g3
 | pop0=>
  obtain⟨rfl,g2⟩:=Pp g;clear g;have g:=g2
  obtain⟨_,rfl⟩:=Zv.mp hx
  cases rds0 hs
  obtain⟨ds,d,g1,g2,g3⟩:=g
  obtain⟨hn,vs,q1,q2⟩:=R.list g1
  obtain⟨y,z1,z2⟩:=q2.get g2
  obtain⟨x1,x2⟩:=We R hn q1 q2.dropLast
  exact Y04 pins s σ w.H _ _ v us Q I rx r ⟨_,vs,y,rfl,rfl,q1,by rw[q2.length];exact z1,a _ _ _ _ x1 x2 (z2.ext x1) g3⟩
 | reverse=>
  obtain⟨rfl,g2⟩:=Pp g;clear g;have g:=g2
  obtain⟨_,rfl⟩:=Zv.mp hx
  cases rds0 hs
  obtain⟨ds,g1,g3⟩:=g
  obtain⟨hn,vs,q1,q2⟩:=R.list g1
  obtain⟨x1,x2⟩:=We R hn q1 q2.reverse
  exact C7 pins s σ w.H _ _ v us Q I rx r ⟨_,vs,rfl,rfl,q1,a _ _ _ _ x1 x2 (Yc.mpr rfl) g3⟩
end
noncomputable def gF(w0:Vw)(tg:List Nat):TG:=fun v σ H Q=>∃w σD M d QD,StOk w0 w σD M σ H∧RD w d v∧tgD tg d σD QD∧∀σ' σD',REnv w σD' σ'→QD σD'→Q σ' H
noncomputable def gAll:List Nat→TGs
 | []=>gNil
 | i::is=>Zu8 (Ze7 i) (gAll is)
theorem Fj{w:Vw}{H:Hp}{Q:L2.St→Hp→Prop}{QD:DEnv→Prop}(k:∀σ' σD',REnv w σD' σ'→QD σD'→Q σ' H):∀(is:List Nat) {ds:List D} {vs:List V} {σ:L2.St} {σD:DEnv},RDs w ds vs→ds.length=is.length→REnv w σD σ→
  QD ((is.zip ds).foldl (fun σ p=>σ.set p.1 (some p.2)) σD)→gAll is vs σ H Q
 | [],ds,vs,σ,σD,r,hl,e,q=>by
  cases List.length_eq_zero_iff.mp hl
  cases rds0 r
  exact⟨rfl,k _ _ e q⟩
 | i::is,ds,vs,σ,σD,r,hl,e,q=>by
  cases ds with
  | nil=>simp at hl
  | cons d ds=>
   unfold RDs at r
   obtain⟨v,vr,rfl,h1,h2⟩:=r
   refine⟨v,vr,rfl,?_⟩
   show gAll is vr (σ.set i (some v)) H Q
   exact Fj k is h2 (by simpa using hl) (e.set i h1) q
section
variable{X:Cx}{w0:Vw}
theorem PG.imp{e:Expr}{t t':TG}(h:PG X e t)(k:∀v σ H Q,t' v σ H Q→t v σ H Q):PG X e t':=fun pins s σ H v u Q I r q=>h pins s σ H v u Q I r (k v σ H Q q)
theorem Zy0{i:Nat}{e:Expr}(h:PG X e (Ze7 i)):PG X e (gF w0 [i]):=PG.imp h fun v σ H Q zz71=>by obtain⟨w,σD,M,d,QD,S,r,g,k⟩:=zz71;exact k _ _ (S.env.set i r) g
theorem Zm1{is:List Nat}{e:Expr}(hl:2≤is.length)(h:PG X e (gTup X.K is.length (gAll is))):PG X e (gF w0 is):=PG.imp h fun v σ H Q ⟨w,σD,M,d,QD,S,r,g,k⟩=>by
 unfold tgD at g
 split at g
 ·simp at hl
 ·obtain⟨a,vs,rfl,q1,q2⟩:=Xn.mp r
  obtain⟨g1,g2⟩:=g
  rw[S.heap] at q1
  exact⟨a,vs,rfl,.of q1,by rw[q2.length];exact g1,Fj k is q2 g1 S.env g2⟩
 ·exact g.elim
end
structure Ck where
 N:List Str
 sc:Scope
 FN:List Str
 GN:List Str
 BN:List Str
 loops:Bool
 calm:Bool
 tries:Bool
 raises:List Nat
 cells:Bool
 own:List Str
noncomputable def G6(scope:Scope):List Str:=(scope.names.filter fun y=>y.2== .cell).map (·.1)
noncomputable def Ck.vis(k:Ck)(x:Str):Bool:=(k.sc.names.lookup x==some .local || k.sc.names.lookup x==some .cell || k.sc.names.lookup x==some .free)&&!(x==("__debug__":Str))&&!(x==("__classdict__":Str))
noncomputable def Ck.glob(k:Ck)(x:Str):Bool:=k.sc.names.lookup x==some .globalImplicit&&!(x==("__debug__":Str))&&!(x==("__name__":Str))
noncomputable def Ck.loc(k:Ck)(x:Str):Bool:=k.sc.names.lookup x==some .local
noncomputable def Ck.locC(k:Ck)(x:Str):Bool:=k.loc x || ((k.cells || k.own.contains x)&&k.sc.names.lookup x==some .cell)
noncomputable def Z18:Expr→Bool
 | .Call (.Name x _) [] [] _=>x !=("super":Str)
 | _=>true
noncomputable def Gk:Expr→Bool
 | .Slice ..=>false
 | _=>true
noncomputable def Cp:Expr→Bool
 | .Set ..=>false
 | _=>true
noncomputable def noStar:Expr→Bool
 | .Starred ..=>false
 | _=>true
noncomputable def isIn:Cm→Bool
 | .isin | .notin=>true
 | _=>false
noncomputable def Zr3(k:Ck):List Nat→List Expr→Bool
 | [],[]=>true
 | i::is,.Name x _::es=>k.N[i]?==some x&&k.locC x&&Zr3 k is es
 | _,_=>false
noncomputable def Pf(k:Ck)(is:List Nat):Expr→Bool
 | .Name x _=>match is with
  | [i]=>k.N[i]?==some x&&k.locC x
  | _=>false
 | .Tuple es _ _=>k.calm&&decide (2≤is.length)&&Zr3 k is es
 | _=>false
noncomputable def isM1:Expr→Bool
 | .UnaryOp .USub (.Constant (.int j) _ _) _=>j==1
 | _=>false
noncomputable def itTg:It→Expr→Bool
 | .enm _,.Tuple ..=>true
 | .enm _,_=>false
 | .zip _,.Tuple ..=>true
 | .zip _,_=>false
 | _,_=>true
mutual
noncomputable def chkE(k:Ck):E→Expr→Bool
 | .var i,.Name x _=>k.N[i]?==some x&&k.vis x
 | .int i,.Constant (.int j) _ _=>i==j
 | .bl b,.Constant (.bool c) _ _=>b==c
 | .non,.Constant .none _ _=>true
 | .str x,.Constant (.str y) _ _=>x==y
 | .ty t,.Name x _=>x==Str.ofString (Xa t)&&k.glob x&&k.BN.contains x
 | .glb g,.Name x _=>k.GN[g]?==some x&&k.glob x
 | .bin op a b,.BinOp l o r _=>o==opOf op&&chkE k a l&&chkE k b r
 | .neg a,.UnaryOp .USub l _=>chkE k a l
 | .not a,.UnaryOp .Not l _=>chkE k a l
 | .cmp op a b,.Compare l [o] [r] _=>o==cmOf op&&(!isIn op || Cp r)&&chkE k a l&&chkE k b r
 | .bop true es,.BoolOp .And ls _=>Xp k es ls
 | .bop false es,.BoolOp .Or ls _=>Xp k es ls
 | .ife t a b,.IfExp x l r _=>chkE k t x&&chkE k a l&&chkE k b r&&noIf t
 | .lst es,.List ls _=>Xp k es ls
 | .tup es,.Tuple ls _ _=>Xp k es ls
 | .dict0,.Dict [] [] _=>true
 | .dct2 a b c d,.Dict [some l,some l2] [r,r2] _=>chkE k a l&&chkE k b r&&chkE k c l2&&chkE k d r2
 | .dct a b,.Dict [some l] [r] _=>chkE k a l&&chkE k b r
 | .ix a b,.Subscript l r _=>Gk r&&chkE k a l&&chkE k b r
 | .sl a lo hi,.Subscript l (.Slice x y none _) _=>chkE k a l&&chkO k lo x&&chkO k hi y
 | .rev a,.Subscript l (.Slice none none (some z) _) _=>chkE k a l&&isM1 z
 | .callk es e,.Call (.Name x _) (l::ls) [⟨some y,r,_⟩] _=>k.calm&&x==("run_graph":Str)&&k.glob x&&y==("most":Str)&&decide (14<k.FN.length)&&Xp k es (l::ls)&&chkE k e r
 | .call f es,.Call (.Name x _) ls [] _=>k.calm&&k.FN[f]?==some x&&k.glob x&&Xp k es ls
 | .bf b es,.Call (.Name x _) (l::ls) [] _=>(k.calm || Vo b)&&x==(bfOf b).1&&k.glob x&&k.BN.contains x&&Xp k es (l::ls)
 | .mt m o es,.Call (.Attribute l nm ap) ls [] cp=>nm==mtN m&&Z18 l&&ap.endLine==cp.line&&decide (ls.length<30)&&chkE k o l&&Xp k es ls
 | .comp N' js tg it cd e,.ListComp el [⟨t,iter,ifs,0⟩] scope _=>k.calm&&Vr k.sc k.N N' js scope&&Cp iter&&Zg8 k it iter&&decide N'.Nodup&&
   Pf {k with N:=N',sc:=Wp scope k.sc,cells:=false,own:=G6 scope,tries:=false,raises:=[]} tg t&&chkC {k with N:=N',sc:=Wp scope k.sc,cells:=false,own:=G6 scope,tries:=false,raises:=[]} cd ifs&&chkE {k with N:=N',sc:=Wp scope k.sc,cells:=false,own:=G6 scope,tries:=false,raises:=[]} e el&&itTg it t
 | _,_=>false
noncomputable def Xp(k:Ck):Es→List Expr→Bool
 | .nil,[]=>true
 | .cons e r,x::xs=>chkE k e x&&noStar x&&Xp k r xs
 | _,_=>false
noncomputable def chkO(k:Ck):Eo→Option Expr→Bool
 | .no,none=>true
 | .yes e,some x=>chkE k e x
 | _,_=>false
noncomputable def chkC(k:Ck):Eo→List Expr→Bool
 | .no,[]=>true
 | .yes e,[x]=>chkE k e x&&noIf e
 | _,_=>false
noncomputable def Zg8(k:Ck):It→Expr→Bool
 | .seq e,x=>chkE k e x
 | .rng1 a,.Call (.Name x _) [l] [] _=>x==("range":Str)&&k.glob x&&k.BN.contains x&&noStar l&&chkE k a l
 | .rng2 a b,.Call (.Name x _) [l,r] [] _=>x==("range":Str)&&k.glob x&&k.BN.contains x&&noStar l&&noStar r&&chkE k a l&&chkE k b r
 | .enm e,.Call (.Name x _) [l] [] _=>x==("enumerate":Str)&&k.glob x&&k.BN.contains x&&noStar l&&chkE k e l
 | .zip es,.Call (.Name x _) (l::ls) [] _=>x==("zip":Str)&&k.glob x&&k.BN.contains x&&Xp k es (l::ls)
 | _,_=>false
noncomputable def noIf:E→Bool
 | .ife _ _ _=>false
 | .not a=>noIf a
 | .bop _ es=>Cv es
 | _=>true
noncomputable def Cv:Es→Bool
 | .nil=>true
 | .cons e r=>noIf e&&Cv r
end
def Zd0(X:Cx)(x:Str)(sp:DSp):Prop:=
 ∃(kk:Nat) (f:Addr) (fd:FuncData) (ps:List Str) (ds:List Value) (dvs:List V) (dD:List D) (sp0:DSp),FnOk X.prog X.w X.K X.mg X.base (CX1 X.prog X.w) kk f fd ps (spF X.K sp0)∧Room kk X.A∧X.mg x=some (.ref f)∧PySem.W.keepIn X.K (.ref f)=true∧
  Zr X.K fd ps ds∧Vals dvs ds∧(∀w:Vw,w.K=X.K→RDs w dD dvs)∧∀as M Q Z,sp as M Q Z→sp0 (as++dD) M Q Z
def KB(K:PySem.W.Frag)(fd:FuncData)(ps:List Str):Prop:=∀(s:Shared) (us:List Value) (v:Value),K.In s.heap→us.length+1=ps.length→BindsTo s fd ⟨us,[("most",v)]⟩ (ps.zip (us++[v]))
def Z92(X:Cx)(sp:DSp):Prop:=
 ∃(kk:Nat) (f:Addr) (fd:FuncData) (ps:List Str),FnOk X.prog X.w X.K X.mg X.base (CX1 X.prog X.w) kk f fd ps (spF X.K sp)∧Room kk X.A∧X.mg "run_graph"=some (.ref f)∧PySem.W.keepIn X.K (.ref f)=true∧KB X.K fd ps
def Qu(K:PySem.W.Frag):Sp:=fun vs H Q _=>∃e C y,vs=[V.ref e,y]∧H e=some (XN e (.ref C) none)∧ExcSet K C "row"∧∀dx,H dx=none→Q .non (upd (upd H dx (.xd [("row",y)])) e (XN e (.ref C) (some dx)))
def Za0(X:Cx)(C:Addr):Prop:=∃(kk:Nat) (f:Addr) (fd:FuncData),ExcMk X.K C f∧FnOk X.prog X.w X.K X.mg X.base CX0 kk f fd ["self","row"] (Qu X.K)∧Room (kk+1) X.A∧Zr X.K fd ["self","row"] [.none]∧Zr X.K fd ["self","row"] []∧ExcSet X.K C "row"
structure Good(c:Cfg)(k:Ck)(Z:DX)(w0:Vw)(X:Cx):Prop where
 hK:X.K=c.K
 wK:w0.K=c.K
 N:X.N=k.N
 nd:X.N.Nodup
 sc:X.env.scope=k.sc
 calm:k.calm=true→X.calm=true
 units:X.A.units+64<cLine
 fns:k.calm=true→∀(f:Nat) (x:Str) (sp:DSp),k.FN[f]?=some x→c.Γ[f]?=some sp→Zd0 X x sp
 kwd:k.calm=true→∀sp:DSp,c.Γ[14]?=some sp→Z92 X sp
 flen:k.FN.length=c.Γ.length
 glb:∀(g:Nat) (x:Str) (d:D),k.GN[g]?=some x→c.G[g]?=some d→∃v u,X.mg x=some u∧RelV v u∧∀w:Vw,w.K=X.K→RD w d v
 blt:∀x,x∈k.BN→X.mg x=none
 exc:∃E,Nj (CX1 X.prog X.w) X E∧∀cls dd H',xkOf w0 Z cls dd H'→E cls dd H'
 stk:k.tries=true→X.stack=X.env::X.outer∧X.env.frame=some X.env.locals
 rai:∀g:Nat,k.raises.contains g=true→(∃E,Leaves X E∧∀cls dd H',xkOf w0 Z cls dd H'→E cls dd H')∧∀C:Addr,c.G[g]?=some (.cls C)→Za0 X C
 po:k.loops=true→PassesOwn (model X.prog X.w) X.A X.env X.xe
 fnc:k.cells=true→∀x,X.fn x=true
 fno:∀x,x∈k.own→X.fn x=true
theorem R9{w w':Vw}{Z:DX}{cls:Value}{dd:Option Addr}{H':Hp}(x:Ext w w')(h:xkOf w' Z cls dd H'):xkOf w Z cls dd H':=by
 obtain⟨C,dx,r,w2,row,M,e1,e2,e3,e4,h5⟩:=h
 exact⟨C,dx,r,w2,row,M,e1,e2,e3,x.trans e4,h5⟩
def ttD(f:DE):DT:=fun σ M Q=>f σ M fun x M1=>truD M1 x fun b=>Q b M1
section
variable{c:Cfg}{k:Ck}{Z:DX}{w0:Vw}{X:Cx}
theorem Good.gl(G:Good c k Z w0 X){x:Str}(h:k.glob x=true):Gl X x∧(x==("__debug__":Str))=false∧x≠"__name__":=by
 unfold Ck.glob at h
 simp only[Bool.and_eq_true,beq_iff_eq,Bool.not_eq_true',beq_eq_false_iff_ne] at h
 refine⟨?_,by simpa using h.1.2,h.2⟩
 unfold Gl Env.kindOf
 rw[G.sc];exact h.1.1
theorem Good.vis(G:Good c k Z w0 X){x:Str}(h:k.vis x=true):Vis X.env.scope x∧(x==("__debug__":Str))=false∧(x==("__classdict__":Str))=false:=by
 unfold Ck.vis at h
 simp only[Bool.and_eq_true,beq_iff_eq,Bool.not_eq_true',Bool.or_eq_true] at h
 refine⟨?_,h.1.2,h.2⟩
 unfold Vis
 rw[G.sc]
 rcases h.1.1 with(q | q) | q
 ·exact .inl q
 ·exact .inr (.inl q)
 ·exact .inr (.inr q)
theorem Good.locC(G:Good c k Z w0 X){x:Str}(h:k.locC x=true):Loc X.env.scope x∧(X.fn x=true∨X.env.scope.names.lookup x=some .local):=by
 unfold Ck.locC Ck.loc at h
 rw[Bool.or_eq_true,Bool.and_eq_true] at h
 rcases h with h | ⟨h1,h2⟩
 ·have hl:X.env.scope.names.lookup x=some .local:=by rw[G.sc];exact eq_of_beq h
  exact⟨.inl hl,.inr hl⟩
 ·refine⟨.inr (by rw[G.sc];exact eq_of_beq h2),.inl ?_⟩
  rw[Bool.or_eq_true,List.contains_iff_mem] at h1
  rcases h1 with z | z
  ·exact G.fnc z x
  ·exact G.fno x z
theorem Good.eK(G:Good c k Z w0 X):X.K=w0.K:=G.hK.trans G.wK.symm
theorem StOk.K{w w0:Vw}{σD:DEnv}{M:Z0}{σ:L2.St}{H:Hp}(S:StOk w0 w σD M σ H):w.K=w0.K:=S.ext.K
theorem Yi{f:DE}{σ:L2.St}{w:Vw}{σD:DEnv}{M:Z0}{H:Hp}{Q:VK}{QD:DK}(S:StOk w0 w σD M σ H)(h:f σD M QD)(a:Aft w QD Q):tF w0 f σ H Q:=⟨w,σD,M,QD,S,h,a⟩
theorem Nq{l:Expr}{nm:Str}{env:Env}(h:Z18 l=true):attributeBase l nm env (eval l env)=eval l env:=by
 unfold attributeBase
 split
 ·rename_i id np pos
  have:(id !="super" || nm=="__class__" || env.kindOf "super" !=some .globalImplicit || env.kindOf "__class__" !=some .free)=true:=by
   have:(id !=("super":Str))=true:=h
   rw[this];rfl
  simp only[this,if_true]
 ·rfl
theorem Zt{x:Expr}{xs:List Expr}{env:Env}(h:noStar x=true):starEach (x::xs) env=(false,eval x env)::starEach xs env:=by
 cases x<;>first | rfl | cases h
theorem Xl{k:Ck}{env:Env}:∀(es:Es) (xs:List Expr),Xp k es xs=true→(starEach xs env).all (fun p=> !p.1)=true
 | .nil,[],_=>rfl
 | .nil,_::_,h=>by simp[Xp] at h
 | .cons e r,[],h=>by simp[Xp] at h
 | .cons e r,x::xs,h=>by
  simp only[Xp,Bool.and_eq_true] at h
  rw[Zt h.1.2]
  simp only[List.all_cons,Bool.not_false,Bool.true_and]
  exact Xl r xs h.2
theorem V2{pos:Pos}{l:List (Bool×Sem Value)}(h:l.all (fun p=> !p.1)=true):(backTo pos l).any (·.1)=false:=by
 induction l with
 | nil=>rfl
 | cons p r ih=>
  simp only[List.all_cons,Bool.and_eq_true,Bool.not_eq_true'] at h
  show(p.1 || (backTo pos r).any (·.1))=false
  rw[h.1,ih h.2];rfl
theorem Zd8{pos:Pos}{l:List (Bool×Sem Value)}(h:l.all (fun p=> !p.1)=true):(backTo pos l).all (fun x=> !x.1)=true:=by
 induction l with
 | nil=>rfl
 | cons p r ih=>
  simp only[List.all_cons,Bool.and_eq_true] at h
  show((!p.1)&&(backTo pos r).all (fun x=> !x.1))=true
  rw[h.1,ih h.2];rfl
theorem Y54{f:DE}{ex:Expr}(G:Good c k Z w0 X)(h:PE X ex (tF w0 f))(he:∀whole,isTrue ex X.env whole=(do let v ←whole;standAt ex.pos;holding [v] (truthy v))):PT X ex (tFT w0 (ttD f)):=by
 refine PT.imp (Zg6 h he) fun σ H Q zz73=>?_
 obtain⟨w,σD,M,QD,S,g,a⟩:=zz73
 refine Yi S g fun v w' d M' x r rd q=>?_
 obtain⟨b,t1,t2⟩:=Vy (K:=X.K) (by rw[x.K,S.K,G.eK]) r rd q
 exact⟨b,t1,a b w' M' x r t2⟩
theorem Zr0{f:DE}{ex:Expr}(h:PT X ex (Zy1 (tF w0 f)))(hb:∀σD M QD,f σD M QD→f σD M fun d M'=>(∃b,d= .bl b)∧QD d M'):PT X ex (tFT w0 (ttD f)):=by
 refine PT.imp h fun σ H Q zz74=>?_
 obtain⟨w,σD,M,QD,S,g,a⟩:=zz74
 refine Yi S (hb _ _ _ g) fun v w' d M' x r rd q=>?_
 obtain⟨⟨b,rfl⟩,q⟩:=q
 cases Xx.mp rd
 exact⟨b,rfl,a b w' M' x r q⟩
theorem Z79{fa fb:DE}{g:D→D→Z0→DK→Prop}{σ:L2.St}{H:Hp}{Q:VK}(h:tF w0 (fun σD M QD=>fa σD M fun x M1=>fb σD M1 fun y M2=>g x y M2 QD) σ H Q):tOp (rF w0 g) (tF w0 fa) (tF w0 fb) σ H Q:=by
 obtain⟨w,σD,M,QD,S,g0,a⟩:=h
 refine Yi S g0 fun x w1 dx M1 x1 r1 rx q1=>?_
 refine Yi (S.next x1 r1) q1 fun y w2 dy M2 x2 r2 ry q2=>?_
 exact⟨w2,M2,dx,dy,QD,rfl,(S.ext.trans x1).trans x2,r2,rx.ext x2,ry,q2,a.ext (x1.trans x2)⟩
theorem Ow{fa fb:DE}{g:Z0→D→D→(Bool→Prop)→Prop}{σ:L2.St}{H:Hp}{Q:VK}(h:tF w0 (fun σD M QD=>fa σD M fun x M1=>fb σD M1 fun y M2=>g M2 x y fun b=>QD (.bl b) M2) σ H Q):tOp (rB w0 g) (tF w0 fa) (tF w0 fb) σ H Q:=by
 obtain⟨w,σD,M,QD,S,g0,a⟩:=h
 refine Yi S g0 fun x w1 dx M1 x1 r1 rx q1=>?_
 refine Yi (S.next x1 r1) q1 fun y w2 dy M2 x2 r2 ry q2=>?_
 exact⟨w2,M2,dx,dy,_,rfl,((S.ext.trans x1).trans x2).K,r2,rx.ext x2,ry,q2,fun b hb=>a _ w2 _ M2 (x1.trans x2) r2 (Xx.mpr rfl) hb⟩
theorem Zo6{a:Expr}{ta:TE}{pos:Pos}(ha:PE X a ta):PE X (.UnaryOp .Not a pos) (fun σ H Q=>ta σ H fun x H1=>∃b,TruV X.K x H1 b∧Q (.bl (!b)) H1):=by
 intro pins s σ H Q I h
 refine UnaryOp_ (thn (ha pins s σ H _ I h) fun v s1 zz75=>?_)
 obtain⟨x,H1,I1,r1,q1⟩:=zz75
 refine not_of (thn (E6 pins s1 σ H1 x v (fun b H2=>Q (.bl (!b)) H2) I1 r1 q1) fun b s2 zz76=>by obtain⟨H2,I2,q2⟩:=zz76;exact⟨.bl (!b),H2,I2,rfl,q2⟩)
theorem Zo9(t:Ty):bootBuiltins (Str.ofString (Xa t))=some (.type (Xa t)):=by
 cases t
 ·exact boot_int
 ·exact boot_str
 ·exact boot_bool
 ·exact boot_list
 ·exact boot_tuple
 ·exact boot_dict
 ·show bootBuiltins "ValueError"=some (.type "ValueError")
  decide+kernel
theorem G9:bootBuiltins "sorted"=some (.builtin "sorted"):=by decide+kernel
theorem Zq8(b:Bf):bootBuiltins (bfOf b).1=some (bfOf b).2:=by
 cases b<;>first | exact PySem.boot_len | exact boot_isinstance | exact PyProof.Rows.boot_min | exact PyProof.Rows.boot_max | exact boot_list | exact boot_tuple | exact boot_dict | exact boot_str | exact G9 | exact boot_int
end
def JOk(w1:Vw)(J:L2.It)(own:Own)(xs:List D):Prop:=∀w M,Ext w1 w→RS w M→Oc own xs M→∀i:Nat,
 (∀d,xs[i]?=some d→J.go i w.H∧∀x H',J.yld i w.H x H'→∃w',w'.H=H'∧Ext w w'∧RS w' M∧RD w' d x)∧(xs.length≤i→J.stop i w.H)
def iF(w0:Vw)(f:DEnv→Z0→(Own→List D→Z0→Prop)→Prop):TI:=fun σ H R=>∃w σD M QD,StOk w0 w σD M σ H∧f σD M QD∧
 ∀J w' own xs M',Ext w w'→RS w' M'→JOk w' J own xs→QD own xs M'→R J w'.H
section
variable{c:Cfg}{k:Ck}{Z:DX}{w0:Vw}{X:Cx}
theorem PI.imp{tg it:Expr}{t t':TI}(h:PI X tg it t)(q:∀σ H R,t' σ H R→t σ H R):PI X tg it t':=fun pins s σ H R I z=>h pins s σ H R I (q σ H R z)
theorem Zx9{tg l:Expr}{tl:TE}(hl:PE X l tl):PI X tg l (fun σ H R=>tl σ H fun x H1=>(∃a,x= .ref a∧(∃xs,SqL X.K H1 a xs)∧R (Itl X.K a) H1)∨∃a,x= .ref a∧(∃xs,SqT X.K H1 a xs)∧R (Itt X.K a) H1):=by
 intro pins s σ H R I h
 refine thn (hl pins s σ H _ I h) fun v s1 zz77=>?_
 obtain⟨x,H1,I1,r1,q1⟩:=zz77
 have fp:∀b∈[s1.heap.objs.size],FpOk X pins H1 b:=fun b hb=>by
  have e:b=s1.heap.objs.size:=by simpa using hb
  subst e
  exact I1.fpOk (Nat.le_refl _) (I1.hok.fresh (Nat.le_refl _))
 rcases q1 with⟨a,e,⟨xs,hq⟩,q⟩ | ⟨a,e,⟨xs,hq⟩,q⟩
 ·subst e
  cases r1
  obtain⟨its,rv,p,hz⟩:=I1.list hq
  refine wpAny_pyIter_list p.isList ?_
  exact⟨s1.heap.objs.size,[s1.heap.objs.size],_,_,H1,rfl,I1.kept (t':=s1.toks) fun b o e=>Heap.get?_push_of_some _ e,Bt a _,⟨_,Heap.get?_push_size _ rfl,rfl,rfl⟩,fp,q⟩
 ·subst e
  cases r1
  obtain⟨its,rv,p,hz⟩:=I1.tuple hq
  refine wpAny_pyIter_tuple (show s1.heap.IsTuple a its.toArray from p) ?_
  exact⟨s1.heap.objs.size,[s1.heap.objs.size],_,_,H1,rfl,I1.kept (t':=s1.toks) fun b o e=>Heap.get?_push_of_some _ e,B6 a _,⟨_,Heap.get?_push_size _ rfl,rfl,rfl⟩,fp,q⟩
theorem Zr2{tg l:Expr}{tl:TE}(hl:PE X l tl):PI X tg l (fun σ H R=>tl σ H fun x H1=>∃a kvs,x= .ref a∧H1 a=some (.dK kvs)∧∀o,(∀o' u,X.H₀ a≠some (.frz o' u))→R (Itd a o) (upd H1 a (.frz o (.dK kvs)))):=by
 intro pins s σ H R I h
 refine thn (hl pins s σ H _ I h) fun v s1 zz78=>?_
 obtain⟨x,H1,I1,r1,a,kvs,e,hq,q⟩:=zz78
 subst e
 cases r1
 obtain⟨o,es,ep,hd,ho,I2,nf⟩:=Zh2 I1 hq
 obtain⟨vs,rel,dd,hlen⟩:=Z60 (I2.hok a _ Zz) hd
 obtain⟨_,hs,_⟩:=Jt I1.hok hq
 refine wpAny_pyIter_dict hs dd ?_
 have fresh:upd H1 a (.frz o (.dK kvs)) s1.heap.objs.size=none:=I2.hok.fresh (Nat.le_refl _)
 have fp:∀b∈[s1.heap.objs.size],FpOk X pins (upd H1 a (.frz o (.dK kvs))) b:=fun b hb=>by
  have e:b=s1.heap.objs.size:=by simpa using hb
  subst e
  exact I2.fpOk (Nat.le_refl _) fresh
 rw[hlen]
 exact⟨s1.heap.objs.size,[s1.heap.objs.size],_,_,_,rfl,I2.kept (t':=s1.toks) fun b o e=>Heap.get?_push_of_some _ e,Z77 a _ hd,⟨_,Heap.get?_push_size _ rfl,rfl,rfl⟩,fp,q o nf⟩
theorem Zi7{w:Vw}:∀{ds:List (Key×D)} {vs:List (Key×V)} {i:Nat} {d:D},RKV w ds vs→(Nl ds)[i]?=some d→∃p,vs[i]?=some p∧RD w d (kV p.1)
 | [],vs,i,d,h,e=>by simp[Nl] at e
 |(k,x)::ds,vs,i,d,h,e=>by
  unfold RKV at h
  obtain⟨v,r,rfl,h1,h2⟩:=h
  cases i with
  | zero=>
   cases e
   refine⟨(k,v),rfl,?_⟩
   cases k with
   | inl i=>exact Zf.mpr rfl
   | inr x=>exact Yb.mpr rfl
  | succ i=>exact Zi7 (i:=i) h2 e
theorem Za2{w1:Vw}{n:Nat}{xs:List D}{o:Obj}{vs:List (Key×V)}(hn:n<w1.n)(h:w1.H (w1.μ n)=some (.frz o (.dK vs))):JOk w1 (Itd (w1.μ n) o) (.dct n) xs:=by
 intro w M x R st i
 obtain⟨kvs,st,rfl⟩:=st
 have q:=x.imm _ _ h rfl
 obtain⟨o',us,q1,q2⟩:=R.cell n _ st
 rw[x.μ n hn,q] at q1
 cases q1
 refine⟨fun d e=>?_,fun hl=>⟨vs,q,by rw[q2.length];unfold Nl at hl;rw[List.length_map] at hl;exact hl⟩⟩
 obtain⟨p,z1,z2⟩:=Zi7 q2 e
 refine⟨⟨vs,p,q,z1⟩,fun y H' ⟨e1,e2⟩=>⟨w,e1.symm,Ext.refl w,R,?_⟩⟩
 obtain⟨p',z3,z4⟩:=e2 vs q
 rw[z1] at z3
 cases z3
 rw[z4]
 exact z2
theorem Zg3{w1:Vw}{n:Nat}{xs:List D}(hK:X.K=w1.K)(hn:n<w1.n):JOk w1 (Itl X.K (w1.μ n)) (.lst n) xs:=by
 intro w M x R st i
 obtain⟨_,vs,q1,q2,_⟩:=R.listL st
 rw[x.μ n hn,x.K,←hK] at q1
 refine⟨fun d e=>?_,fun hl=>⟨vs,q1,by rw[q2.length];exact hl⟩⟩
 obtain⟨v,z1,z2⟩:=q2.get e
 refine⟨⟨vs,v,q1,z1⟩,fun y H' ⟨e1,e2⟩=>⟨w,e1.symm,Ext.refl w,R,?_⟩⟩
 have:=e2 vs q1
 rw[z1] at this
 cases this
 exact z2
theorem Ze4{w1:Vw}{n:Nat}{xs:List D}(hK:X.K=w1.K)(hn:n<w1.n):JOk w1 (Ite X.K (w1.μ n)) (.enm n) xs:=by
 intro w M x R st i
 obtain⟨ys,st,rfl⟩:=st
 obtain⟨_,vs,q1,q2,_⟩:=R.listL st
 rw[x.μ n hn,x.K,←hK] at q1
 refine⟨fun d e=>?_,fun hl=>⟨vs,q1,by rw[q2.length];unfold N9 at hl;rw[List.length_mapIdx] at hl;exact hl⟩⟩
 unfold N9 at e
 rw[List.getElem?_mapIdx,Option.map_eq_some_iff] at e
 obtain⟨d,e,rfl⟩:=e
 obtain⟨v,z1,z2⟩:=q2.get e
 refine⟨⟨vs,v,q1,z1⟩,fun y H' zz81=>?_⟩
 obtain⟨p,u,hp,e1,e2,e3⟩:=zz81
 have:=e3 vs q1
 rw[z1] at this
 cases this
 subst e1 e2
 obtain⟨a1,a2,a3⟩:=Te R hp (RDs.cons (Zf.mpr (rfl:V.int (i:Int)=_)) (RDs.cons z2 (RDs.nil w)))
 exact⟨_,rfl,a1,a2,a3⟩
theorem Zr1{w:Vw}{ys zs:List D}{us vs:List V}(h1:RDs w ys us)(h2:RDs w zs vs){i:Nat}{d:D}(e:(zipT ys zs)[i]?=some d):∃x y u v,d= .tup [x,y]∧us[i]?=some u∧vs[i]?=some v∧RD w x u∧RD w y v:=by
 unfold zipT at e
 rw[List.getElem?_map,Option.map_eq_some_iff] at e
 obtain⟨p,e,rfl⟩:=e
 rw[List.getElem?_zip_eq_some] at e
 obtain⟨u,a1,a2⟩:=h1.get e.1
 obtain⟨v,b1,b2⟩:=h2.get e.2
 exact⟨_,_,u,v,rfl,a1,b1,a2,b2⟩
theorem Zm0{w1:Vw}{n m:Nat}{xs:List D}(hK:X.K=w1.K)(hn:n<w1.n)(hm:m<w1.n):JOk w1 (Itz X.K (w1.μ n) (w1.μ m)) (.two n m) xs:=by
 intro w M x R st i
 obtain⟨ys,zs,st,st2,rfl⟩:=st
 obtain⟨_,us,q1,q2,_⟩:=R.listL st
 obtain⟨_,vs,p1,p2,_⟩:=R.listL st2
 rw[x.μ n hn,x.K,←hK] at q1
 rw[x.μ m hm,x.K,←hK] at p1
 refine⟨fun d e=>?_,fun hl=>⟨us,vs,q1,p1,?_⟩⟩
 ·obtain⟨dx,dy,u,v,rfl,a1,a2,a3,a4⟩:=Zr1 q2 p2 e
  refine⟨⟨us,vs,u,v,q1,p1,a1,a2⟩,fun y H' zz82=>?_⟩
  obtain⟨p,u',v',hp,e1,e2,e3,e4⟩:=zz82
  have h3:=e3 us q1
  have h4:=e4 vs p1
  rw[a1] at h3
  rw[a2] at h4
  cases h3
  cases h4
  subst e1 e2
  obtain⟨b1,b2,b3⟩:=Te R hp (RDs.cons a3 (RDs.cons a4 (RDs.nil w)))
  exact⟨_,rfl,b1,b2,b3⟩
 ·have l1:=q2.length
  have l2:=p2.length
  unfold zipT at hl
  rw[List.length_map,List.length_zip] at hl
  omega
theorem Z09{w1:Vw}{a:Addr}{vs:List V}{xs:List D}(hK:X.K=w1.K)(h:SqT w1.K w1.H a vs)(r:RDs w1 xs vs):JOk w1 (Itt X.K a) .no xs:=by
 intro w M x R st i
 have q1:=x.sqT h
 rw[x.K,←hK] at q1
 have q2:=r.ext x
 refine⟨fun d e=>?_,fun hl=>⟨vs,q1,by rw[q2.length];exact hl⟩⟩
 obtain⟨v,z1,z2⟩:=q2.get e
 refine⟨⟨vs,v,q1,z1⟩,fun y H' ⟨e1,e2⟩=>⟨w,e1.symm,Ext.refl w,R,?_⟩⟩
 have:=e2 vs q1
 rw[z1] at this
 cases this
 exact z2
theorem Z37{w1:Vw}{lo:Int}{n:Nat}:JOk w1 (Itr lo n) .no (Q3 lo n):=by
 intro w M x R st i
 unfold Q3
 refine⟨fun d e=>?_,fun hl=>?_⟩
 ·rw[List.getElem?_map,Option.map_eq_some_iff] at e
  obtain⟨j,h1,rfl⟩:=e
  obtain⟨h2,h3⟩:=List.getElem?_eq_some_iff.mp h1
  have hj:j=i:=by simpa using h3.symm
  subst hj
  have h4:j<n:=by simpa using h2
  exact⟨h4,fun y H' zz84=>by obtain⟨e1,e2⟩:=zz84;exact⟨w,e1.symm,Ext.refl w,R,by rw[e2];exact Zf.mpr rfl⟩⟩
 ·have:n≤i:=by simpa using hl
  exact this
theorem Z80{X:Cx}{N':List Str}{scope:Scope}{cl:List (Str×Addr)}{C:Addr}{fp:List Addr}{pins:List (Addr×Obj)}{s:Shared}{H:Hp}:(cxC X N' scope cl C fp pins s H).env.scope=Wp scope X.env.scope:=rfl
theorem Good.block(G:Good c k Z w0 X)(hc:k.calm=true){N':List Str}{scope:Scope}(hn:N'.Nodup)(cl:List (Str×Addr))(C:Addr)(fp:List Addr)(pins:List (Addr×Obj))(s:Shared)(H:Hp):
  Good c {k with N:=N',sc:=Wp scope k.sc,cells:=false,own:=G6 scope,tries:=false,raises:=[]} noX w0 (cxC X N' scope cl C fp pins s H) where
 hK:=G.hK
 wK:=G.wK
 N:=rfl
 nd:=hn
 sc:=by rw[Z80,G.sc]
 calm:=fun _=>G.calm hc
 units:=G.units
 kwd:=fun _ sp h2=>G.kwd hc sp h2
 fns:=fun _ f x sp h1 h2=>by
  obtain⟨kk,f,fd,ps,ds,dvs,dD,sp0,h⟩:=G.fns hc f x sp h1 h2
  exact⟨kk,f,fd,ps,ds,dvs,dD,sp0,h⟩
 flen:=G.flen
 glb:=G.glb
 blt:=G.blt
 exc:=⟨E0,fun _ _ _ _ _ _ _ h=>by
  obtain⟨_,_,_,_,_,_,_,_,_,_,_,_,_,_,_,h⟩:=h
  exact h.elim,fun cls dd H' h=>by
  obtain⟨_,_,_,_,_,_,_,_,_,_,_,_,_,h⟩:=h
  exact h.elim⟩
 stk:=fun h=>by cases h
 rai:=fun _ h=>absurd h Bool.false_ne_true
 po:=fun _=>PassesOwn.never
 fnc:=fun h=>by cases h
 fno:=fun x hx=>by
  show(scope.names.any fun y=>y.1==x&&y.2==NameKind.cell)=true
  have hx:x∈(scope.names.filter fun y=>y.2==NameKind.cell).map (·.1):=hx
  obtain⟨y,hy,rfl⟩:=List.mem_map.mp hx
  obtain⟨h1,h2⟩:=List.mem_filter.mp hy
  rw[List.any_eq_true]
  exact⟨y,h1,by rw[beq_self_eq_true,Bool.true_and];exact h2⟩
theorem Good.tgt(G:Good c k Z w0 X):∀(is:List Nat) (ex:Expr),Pf k is ex=true→PG X ex (gF w0 is):=by
 have one:∀(i:Nat) (x:Str) (pos:Pos),k.N[i]?=some x→k.locC x=true→PG X (.Name x pos) (Ze7 i):=fun i x pos h1 h2=>by
  obtain⟨l1,l2⟩:=G.locC h2
  exact Zn2 G.nd (by rw[G.N];exact h1) l1 l2
 have many:∀(is:List Nat) (es:List Expr),Zr3 k is es=true→PGs X es (gAll is)∧(assignEach es X.env).length=is.length∧(assignEach es X.env).findIdx? (·.1)=none:=by
  intro is
  induction is with
  | nil=>
   intro es h
   cases es with
   | nil=>exact⟨Zq6,rfl,rfl⟩
   | cons e es=>exact absurd h Bool.false_ne_true
  | cons i is ih=>
   intro es h
   cases es with
   | nil=>exact absurd h Bool.false_ne_true
   | cons e es=>
    cases e with
    | Name x pos=>
     change (_&&_)=true at h
     simp only[Bool.and_eq_true,beq_iff_eq] at h
     obtain⟨h1,h2,h3⟩:=ih es h.2
     refine⟨Zd6 (one i x pos h.1.1 h.1.2) h1 rfl,?_,?_⟩
     ·show(assignEach es X.env).length+1=is.length+1
      rw[h2]
     ·show((false,_)::assignEach es X.env).findIdx? (·.1)=none
      rw[List.findIdx?_cons,h3]
      rfl
    | _=>exact absurd h Bool.false_ne_true
 intro is ex h
 cases ex with
 | Name x pos=>
  match is,h with
  | [i],h=>
   change (_&&_)=true at h
   simp only[Bool.and_eq_true,beq_iff_eq] at h
   exact Zy0 (one _ x pos h.1 h.2)
  | [],h=>exact absurd h Bool.false_ne_true
  | _::_::_,h=>exact absurd h Bool.false_ne_true
 | Tuple es kk pos=>
  change (_&&_)=true at h
  simp only[Bool.and_eq_true,decide_eq_true_eq] at h
  obtain⟨h1,h2,h3⟩:=many is es h.2
  exact Zm1 h.1.2 (Y27 (G.calm h.1.1) h1 h2 h3)
 | _=>exact absurd h Bool.false_ne_true
theorem Zl3{w:Vw}{js:List (Option Nat)}{σD:DEnv}{σ:L2.St}(h:REnv w σD σ):REnv w (capD js σD) (Tf js σ):=by
 refine⟨by unfold capD Tf;simp,fun i d e=>?_⟩
 unfold capD at e
 unfold Tf
 rw[List.getElem?_map] at e ⊢
 cases hj:js[i]? with
 | none=>rw[hj] at e;cases e
 | some o=>
  rw[hj] at e
  simp only[Option.map_some,Option.some.injEq] at e ⊢
  cases o with
  | none=>cases e
  | some j=>
   simp only[Option.bind_some] at e ⊢
   cases hz:σD[j]? with
   | none=>rw[hz] at e;cases e
   | some z=>
    rw[hz] at e
    have e':z=some d:=e
    subst e'
    obtain⟨v,q1,q2⟩:=h.2 j d hz
    exact⟨v,by rw[q1];rfl,q2⟩
theorem Zc2{w1:Vw}{J:L2.It}{own:Own}{xs:List D}{tg:List Nat}{cd:DT}{el:DE}{M1:Z0}{H1:Hp}{σD:DEnv}{σ:L2.St}{QD:Z0→Prop}{Q:VK}(e0:Ext w0 w1)(hH:w1.H=H1)(R1:RS w1 M1)(env:REnv w1 σD σ)(jk:JOk w1 J own xs)
  (h:Nv own xs tg cd el M1.length xs σD (M1++[.lst []]) QD) (a:Aft w1 (fun d M=>d= .ref M1.length∧QD M) Q):∀p,H1 p=none→∃W:Nat→Nat→L2.St→Hp→Prop,(∃m,W 0 m σ (upd H1 p (.lst [])))∧
   ∀i m σc Hc,W i m σc Hc→(J.stop i Hc∧Q (.ref p) Hc)∨(J.go i Hc∧∀x H',J.yld i Hc x H'→gF w0 tg x σc H' fun σ2 H2=>tFT w0 cd σ2 H2 fun b H3=>if b=true then tF w0 el σ2 H3 fun y H4=>∃acc,H4 p=some (.lst acc)∧acc.length<sizeLine∧
    ∃m',m'<m∧W (i+1) m' σ2 (upd H4 p (.lst (acc++[y]))) else ∃m',m'<m∧W (i+1) m' σ2 H3):=by
 intro p hp
 subst hH
 obtain⟨x1,R2,rz⟩:=W7 (xs:=[]) R1 hp (RDs.nil w1)
 have hz:M1.length< (w1.push p (.lst [])).n∧p=(w1.push p (.lst [])).μ M1.length:=by
  obtain⟨z1,z2⟩:=Zv.mp rz
  exact⟨z1,by injection z2⟩
 refine⟨fun i m σc Hc=>∃w σE M,StOk w0 w σE M σc Hc∧Ext (w1.push p (.lst [])) w∧i≤xs.length∧m=xs.length - i∧Nv own xs tg cd el M1.length (xs.drop i) σE M QD,⟨xs.length,w1.push p (.lst []),σD,_,⟨rfl,e0.trans x1,R2,env.ext x1⟩,Ext.refl _,Nat.zero_le _,rfl,h⟩,?_⟩
 rintro i m σc Hc ⟨w,σE,M,S,x2,hi,rfl,hc⟩
 have x12:Ext w1 w:=x1.trans x2
 have hp':w.μ M1.length=p:=(x2.μ _ hz.1).trans hz.2.symm
 have hlt:M1.length<w.n:=Nat.lt_of_lt_of_le hz.1 x2.n
 have stp:∀st:Oc own xs M,_:=fun st=>jk w M x12 S.rs st i
 rw[S.heap] at stp
 by_cases hil:i<xs.length
 ·rw[List.drop_eq_getElem_cons hil] at hc
  obtain⟨st,hc⟩:=hc
  obtain⟨j1,j2⟩:=(stp st).1 xs[i] (List.getElem?_eq_getElem hil)
  refine .inr ⟨j1,fun x H' hy=>?_⟩
  obtain⟨w3,rfl,x3,R3,rd3⟩:=j2 x H' hy
  refine⟨w3,σE,M,xs[i],_,⟨rfl,S.ext.trans x3,R3,S.env.ext x3⟩,rd3,hc,fun σ2 σE2 env2 q2=>?_⟩
  refine⟨w3,σE2,M,_,⟨rfl,S.ext.trans x3,R3,env2⟩,q2,fun b w4 M4 x4 R4 q4=>?_⟩
  cases b with
  | true=>
   rw[if_pos rfl] at q4 ⊢
   refine Yi ⟨rfl,(S.ext.trans x3).trans x4,R4,env2.ext x4⟩ q4 fun y w5 dy M5 x5 R5 rd5 q5=>?_
   obtain⟨acc,g1,g2,g3⟩:=q5
   obtain⟨hn,vs,z1,z2⟩:=R5.list g1
   have x35:Ext w w5:=(x3.trans x4).trans x5
   have hp5:w5.μ M1.length=p:=(x35.μ _ hlt).trans hp'
   obtain⟨y1,y2⟩:=We R5 hn z1 (z2.append (RDs.cons rd5 (RDs.nil w5)))
   rw[hp5] at z1 y1 y2
   refine⟨vs,z1,by rw[z2.length];exact g2,xs.length - (i+1),by omega,w5.alloc p (.lst (vs++[y])),σE2,_,⟨rfl,(S.ext.trans x35).trans y1,y2,(env2.ext (x4.trans x5)).ext y1⟩,(x2.trans x35).trans y1,hil,rfl,g3⟩
  | false=>
   rw[if_neg Bool.false_ne_true] at q4 ⊢
   exact⟨xs.length - (i+1),by omega,w4,σE2,M4,⟨rfl,(S.ext.trans x3).trans x4,R4,env2.ext x4⟩,(x2.trans x3).trans x4,hil,rfl,q4⟩
 ·rw[List.drop_eq_nil_of_le (by omega)] at hc
  obtain⟨st,hq⟩:=hc
  refine .inl ⟨(stp st).2 (by omega),?_⟩
  have:=a (.ref p) w (.ref M1.length) M x12 S.rs (Zv.mpr ⟨hlt,by rw[hp']⟩) ⟨rfl,hq⟩
  rw[S.heap] at this
  exact this
end
def Zk7(c:Cfg)(e:E):Prop:=∀(k:Ck) (Z:DX) (w0:Vw) (X:Cx) (ex:Expr),Good c k Z w0 X→chkE k e ex=true→PE X ex (tF w0 (te c Z e))∧(noIf e=true→PT X ex (tFT w0 (ttD (te c Z e))))
def Zt3(c:Cfg)(es:Es):Prop:=∀(k:Ck) (Z:DX) (w0:Vw) (X:Cx) (ls:List Expr),Good c k Z w0 X→Xp k es ls=true→PA X ls (tFA w0 (tes c Z es))∧
 ∀(b:Bool) (pos:Pos),PE X (.BoolOp (if b then .And else .Or) ls pos) (tF w0 (tbop c Z b es))∧(Cv es=true→PW X (.BoolOp (if b then .And else .Or) ls pos) (tFT w0 (ttD (tbop c Z b es))))
def Zk0(c:Cfg)(eo:Eo):Prop:=(∀(k:Ck) (Z:DX) (w0:Vw) (X:Cx) (lo:Option Expr),Good c k Z w0 X→chkO k eo lo=true→PO X lo (tFO w0 (teo c Z eo)))∧
 ∀(k:Ck) (Z:DX) (w0:Vw) (X:Cx) (ls:List Expr),Good c k Z w0 X→chkC k eo ls=true→(∃x,ls=[x]∧PT X x (tFT w0 (tcd c Z eo)))∨(ls=[]∧eo= .no)
def Y06(c:Cfg)(it:It):Prop:=∀(k:Ck) (Z:DX) (w0:Vw) (X:Cx) (tg ex:Expr),Good c k Z w0 X→Zg8 k it ex=true→itTg it tg=true→PI X tg ex (iF w0 (tit c Z it))
section
variable{c:Cfg}{k:Ck}{Z:DX}{w0:Vw}{X:Cx}
theorem Qa{d:D}{v:V}{σ:L2.St}{H:Hp}{Q:VK}(hv:∀w:Vw,w.K=w0.K→RD w d v)(h:tF w0 (fun _ M Q=>Q d M) σ H Q):tC v σ H Q:=by
 obtain⟨w,σD,M,QD,S,g,a⟩:=h
 have:=a v w d M (Ext.refl w) S.rs (hv w S.K) g
 rw[S.heap] at this
 exact this
theorem both{f:DE}{ex:Expr}{b:Bool}(G:Good c k Z w0 X)(h:PE X ex (tF w0 f))(he:∀whole,isTrue ex X.env whole=(do let v ←whole;standAt ex.pos;holding [v] (truthy v))):
  PE X ex (tF w0 f)∧(b=true→PT X ex (tFT w0 (ttD f))):=⟨h,fun _=>Y54 G h he⟩
theorem Cq{f:Nat}{es:Es}{x:Str}{np pos:Pos}{ls:List Expr}(G:Good c k Z w0 X)(hc:k.calm=true)(hf:k.FN[f]?=some x)(hg:k.glob x=true)(hs:Xp k es ls=true)(ih:PA X ls (tFA w0 (tes c Z es))):
  PE X (.Call (.Name x np) ls [] pos) (tF w0 (te c Z (.call f es))):=by
 obtain⟨g1,g2,g3⟩:=G.gl hg
 obtain⟨E,ps,xk⟩:=G.exc
 cases hsp:c.Γ[f]? with
 | none=>
  have h1:=(List.getElem?_eq_some_iff.mp hf).1
  have h2:=List.getElem?_eq_none_iff.mp hsp
  rw[G.flen] at h1
  omega
 | some sp=>
  obtain⟨kk,fa,fd,pr,ds,dvs,dD,sp0,F,hr,hm,hk,hb,hd,hD,hsp0⟩:=G.fns hc f x sp hf hsp
  have key:∀σ H Q,tF w0 (te c Z (.call f es)) σ H Q→tFA w0 (tes c Z es) σ H fun vs H1=>spF X.K sp0 (vs++dvs) H1 Q E:=by
   rintro σ H Q ⟨w,σD,M,QD,S,g,a⟩
   refine⟨w,σD,M,_,S,g,fun vs w' ds' M' x' r' rd' q'=>?_⟩
   have q':sp ds' M' QD Z:=by
    have:=q'
    simp only[hsp] at this
    exact this
   have hKw:w'.K=X.K:=by rw[x'.K,S.K,G.eK]
   exact⟨w',ds'++dD,M',QD,Z,hKw,rfl,r',rd'.append (hD w' hKw),hsp0 _ _ _ _ q',a.ext x',fun cls dd H' hx=>xk cls dd H' (R9 (S.ext.trans x') hx)⟩
  cases ls with
  | nil=>
   refine PE.imp (Za3 F hr g1 hm hk hb hd ps g2) fun σ H Q h=>?_
   have h2:=key σ H Q h
   obtain⟨w,σD,M,QD,S,g,a⟩:=h2
   cases es with
   | nil=>
    have:=a [] w [] M (Ext.refl w) S.rs (RDs.nil w) g
    rw[S.heap] at this
    exact this
   | cons e r=>exact absurd hs Bool.false_ne_true
  | cons l ls=>
   cases es with
   | nil=>exact absurd hs Bool.false_ne_true
   | cons e r=>
    change (_&&_)=true at hs
    simp only[Bool.and_eq_true] at hs
    exact PE.imp (Zp7 F hr g1 hm hk hb hd ps ih g2 (Zt hs.1.2) (V2 (Xl r ls hs.2))) key
theorem G8{es:Es}{e:E}{np kp pos:Pos}{l r:Expr}{ls:List Expr}(G:Good c k Z w0 X)(hc:k.calm=true)(hg:k.glob "run_graph"=true)(hf:14<k.FN.length)(hs:Xp k es (l::ls)=true)(ih:PA X (l::ls) (tFA w0 (tes c Z es)))(ihe:PE X r (tF w0 (te c Z e))):
  PE X (.Call (.Name "run_graph" np) (l::ls) [⟨some "most",r,kp⟩] pos) (tF w0 (te c Z (.callk es e))):=by
 obtain⟨g1,g2,g3⟩:=G.gl hg
 obtain⟨E,ps,xk⟩:=G.exc
 have st:starEach (l::ls) X.env=(false,eval l X.env)::starEach ls X.env∧(backTo pos (starEach ls X.env)).any (·.1)=false:=by
  cases es with
  | nil=>exact absurd hs Bool.false_ne_true
  | cons e r=>
   change (_&&_)=true at hs
   simp only[Bool.and_eq_true] at hs
   exact⟨Zt hs.1.2,V2 (Xl r ls hs.2)⟩
 cases hsp:c.Γ[14]? with
 | none=>
  have h2:=List.getElem?_eq_none_iff.mp hsp
  rw[←G.flen] at h2
  omega
 | some sp=>
  obtain⟨kk,fa,fd,pr,F,hr,hm,hk,hb⟩:=G.kwd hc sp hsp
  intro pins s σ H Q I h
  have key:tFA w0 (tes c Z es) σ H fun vs H1=>tF w0 (te c Z e) σ H1 fun v H2=>∃z,[v]=[z]∧spF X.K sp (vs++[z]) H2 Q E:=by
   obtain⟨w,σD,M,QD,S,g,a⟩:=h
   refine⟨w,σD,M,_,S,g,fun vs w' ds' M' x' r' rd' q'=>?_⟩
   refine⟨w',σD,M',_,S.next x' r',q',fun v w2 d M2 x2 r2 rdv q2=>⟨v,rfl,?_⟩⟩
   have q2:sp (ds'++[d]) M2 QD Z:=by
    have:=q2
    simp only[hsp] at this
    exact this
   have hKw:w2.K=X.K:=by rw[x2.K,x'.K,S.K,G.eK]
   exact⟨w2,ds'++[d],M2,QD,Z,hKw,rfl,r2,(rd'.ext x2).append (RDs.cons rdv (RDs.nil w2)),q2,a.ext (x'.trans x2),fun cls dd H' hx=>xk cls dd H' (R9 (S.ext.trans (x'.trans x2)) hx)⟩
  refine wpAny_Call_Name_kw (Wh I g1 hm ?_ g2)
  refine PySem.W.callWith_KW (h₀:=X.base) I.ok.mod.kin hk rfl (thn (ih pos pins s σ H _ I key) fun us s1 zz85=>?_) (by rw[st.1];show((false || (backTo pos (starEach ls X.env)).any (·.1)) || false)=false;rw[st.2];rfl) st.1
  obtain⟨vs,H1,I1,rv,q⟩:=zz85
  have hpk:PK X [⟨some "most",r,kp⟩] (Zm2 (tF w0 (te c Z e)) tNil):=Zt0 ihe Zv2
  refine thn (hpk pos pins s1 σ H1 (fun zs H2=>∃z,zs=[z]∧spF X.K sp (vs++[z]) H2 Q E) I1 q) fun ws s2 ⟨zs,H2,I2,rz,z,ez,q2⟩=>⟨I2.kIn,?_⟩
  subst ez
  obtain⟨u,rfl,ru⟩:=Q4 rz
  have r2:Vals (vs++[z]) (us++[u]):=rv.append (.cons ru .nil)
  have hl:us.length+1=pr.length:=by
   have h1:=F.len _ _ _ _ q2
   rw[r2.length,List.length_append] at h1
   exact h1
  show wpAny _ _ (call (.ref fa) us [("most",u)]) _ _ _
  refine wpAny_call (codeAny_mono (F.run X.A X.stack s2 H2 ⟨us,[("most",u)]⟩ (us++[u]) (vs++[z]) Q E hr I2.env0 (hb s2 us u I2.kIn hl) r2 q2) fun r s' hq=>?_)
  cases r with
  | error e=>exact ps pins σ H2 s2 e s' I2 hq
  | ok fl=>
   cases fl with
   | ret u=>exact I2.after hq
   | next=>exact False.elim hq
   | brk=>exact False.elim hq
   | cont=>exact False.elim hq
theorem Z85{i:Nat}{x:Str}{pos:Pos}(G:Good c k Z w0 X)(h1:k.N[i]?=some x)(h2:k.vis x=true):PE X (.Name x pos) (tF w0 (te c Z (.var i))):=by
 obtain⟨v1,v2,v3⟩:=G.vis h2
 refine PE.imp (Z43 (i:=i) (by rw[G.N];exact h1) v1 v2 v3) fun σ H Q zz87=>?_
 obtain⟨w,σD,M,QD,S,g,a⟩:=zz87
 unfold te at g
 split at g
 ·rename_i d e
  obtain⟨v,q1,q2⟩:=S.env.2 i d e
  have:=a v w d M (Ext.refl w) S.rs q2 g
  rw[S.heap] at this
  exact⟨v,q1,this⟩
 ·exact g.elim
theorem Bu{g:Nat}{x:Str}{pos:Pos}(G:Good c k Z w0 X)(h1:k.GN[g]?=some x)(h2:k.glob x=true):PE X (.Name x pos) (tF w0 (te c Z (.glb g))):=by
 obtain⟨g1,g2,g3⟩:=G.gl h2
 cases hd:c.G[g]? with
 | none=>
  refine PE.imp (t:=fun _ _ _=>False) (fun _ _ _ _ _ _ h=>h.elim) fun σ H Q zz88=>?_
  obtain⟨w,σD,M,QD,S,q,a⟩:=zz88
  unfold te at q
  rw[hd] at q
  exact q
 | some d=>
  obtain⟨v,u,q1,q2,q3⟩:=G.glb g x d h1 hd
  refine PE.imp (Zq0 g1 q1 q2 g2) fun σ H Q h=>Qa (d:=d) (fun w hw=>q3 w (by rw[hw,G.eK])) ?_
  obtain⟨w,σD,M,QD,S,q,a⟩:=h
  unfold te at q
  rw[hd] at q
  exact⟨w,σD,M,QD,S,q,a⟩
theorem Y51{es:Es}{l:Expr}{ls:List Expr}{pos:Pos}(hs:Xp k es (l::ls)=true):starEach (l::ls) X.env=(false,eval l X.env)::starEach ls X.env∧(backTo pos (starEach ls X.env)).any (·.1)=false:=by
 cases es with
 | nil=>exact absurd hs Bool.false_ne_true
 | cons e r=>
  change (_&&_)=true at hs
  simp only[Bool.and_eq_true] at hs
  exact⟨Zt hs.1.2,V2 (Xl r ls hs.2)⟩
theorem Za7{b:Bf}{es:Es}{x:Str}{np pos:Pos}{l:Expr}{ls:List Expr}(G:Good c k Z w0 X)(hc:k.calm=true∨Vo b=true)(hx:x=(bfOf b).1)(hg:k.glob x=true)(hB:x∈k.BN)(hs:Xp k es (l::ls)=true)(ih:PA X (l::ls) (tFA w0 (tes c Z es))):
  PE X (.Call (.Name x np) (l::ls) [] pos) (tF w0 (te c Z (.bf b es))):=by
 obtain⟨g1,g2,g3⟩:=G.gl hg
 have hm:=G.blt x hB
 have hb:bootBuiltins x=some (bfOf b).2:=by rw[hx];exact Zq8 b
 have snd:=Zh9 (w0:=w0) G.eK b (hc.imp G.calm id)
 have st:starEach (l::ls) X.env=(false,eval l X.env)::starEach ls X.env∧(backTo pos (starEach ls X.env)).any (·.1)=false:=by
  cases es with
  | nil=>exact absurd hs Bool.false_ne_true
  | cons e r=>
   change (_&&_)=true at hs
   simp only[Bool.and_eq_true] at hs
   exact⟨Zt hs.1.2,V2 (Xl r ls hs.2)⟩
 have key:∀σ H Q,tF w0 (te c Z (.bf b es)) σ H Q→tCB (rC w0 (bfD w0.K b)) (tFA w0 (tes c Z es)) σ H Q:=by
  rintro σ H Q ⟨w,σD,M,QD,S,g,a⟩
  refine⟨w,σD,M,_,S,g,fun vs w' ds M' x' r' rd' q'=>?_⟩
  rw[←G.wK] at q'
  exact⟨w',M',ds,QD,rfl,by rw[x'.K,S.K],r',rd',q',a.ext x'⟩
 cases hv:(bfOf b).2 with
 | builtin id=>
  rw[hv] at hb snd
  exact PE.imp (Ze1 snd g1 hm hb ih g3 g2 st.1 st.2) key
 | type T=>
  rw[hv] at hb snd
  exact PE.imp (Z31 snd g1 hm hb ih g3 g2 st.1 st.2) key
 | _=>cases b<;>cases hv
theorem Zh7{m:Mt}{o:E}{es:Es}{l:Expr}{ap cp:Pos}{ls:List Expr}(G:Good c k Z w0 X)(hb:Z18 l=true)(hl:(ap.endLine==cp.line)=true)(hn:ls.length<30)(hs:Xp k es ls=true)(ho:PE X l (tF w0 (te c Z o)))(ih:PA X ls (tFA w0 (tes c Z es))):
  PE X (.Call (.Attribute l (mtN m) ap) ls [] cp) (tF w0 (te c Z (.mt m o es))):=by
 have snd:=Zb6 (w0:=w0) G.eK G.units m
 cases ls with
 | nil=>
  refine PE.imp (Y36 (Y18 m) (Z75 m) (Zz4 m) snd ho (Nq hb) hl) fun σ H Q zz89=>?_
  obtain⟨w,σD,M,QD,S,g,a⟩:=zz89
  refine Yi S g fun x w1 dx M1 x1 r1 rx q1=>?_
  have ty:=Zk6 r1 rx q1.1
  rw[x1.K,S.K,←G.eK] at ty
  refine⟨ty,?_⟩
  cases es with
  | nil=>exact⟨w1,M1,dx,[],QD,rfl,by rw[x1.K,S.K],r1,rx,RDs.nil w1,q1.2,a.ext x1⟩
  | cons e r=>exact absurd hs Bool.false_ne_true
 | cons l' ls=>
  cases es with
  | nil=>exact absurd hs Bool.false_ne_true
  | cons e r=>
   have hs':=hs
   change (_&&_)=true at hs'
   simp only[Bool.and_eq_true] at hs'
   have few:((backTo cp (starEach (l'::ls) X.env)).all (fun x=> !x.1)&&(backToKw cp (keywordEach [] X.env)).all (fun x=>x.1.isSome)
     &&decide ((l'::ls).length+([]:List Keyword).length+(if ([]:List Keyword).isEmpty then 0 else 1)<30))=true:=by
    rw[Zd8 (Xl _ _ hs)]
    show(true&&true&&decide ((l'::ls).length+0+0<30))=true
    simpa using hn
   refine PE.imp (Y45 (Y18 m) (Z75 m) (Zz4 m) snd ho ih (Nq hb) few hl (Zt hs'.1.2) (V2 (Xl r ls hs'.2))) fun σ H Q zz90=>?_
   obtain⟨w,σD,M,QD,S,g,a⟩:=zz90
   refine Yi S g fun x w1 dx M1 x1 r1 rx q1=>?_
   have ty:=Zk6 r1 rx q1.1
   rw[x1.K,S.K,←G.eK] at ty
   refine⟨ty,w1,σD,M1,_,S.next x1 r1,q1.2,fun vs w2 ds M2 x2 r2 rd2 q2=>?_⟩
   exact⟨w2,M2,dx,ds,QD,rfl,by rw[x2.K,x1.K,S.K],r2,rx.ext x2,rd2,q2,a.ext (x1.trans x2)⟩
theorem Zb3{a:E}{lo hi:Eo}{l:Expr}{x y:Option Expr}{p2 pos:Pos}(G:Good c k Z w0 X)(ha:PE X l (tF w0 (te c Z a)))(h1:PO X x (tFO w0 (teo c Z lo)))(h2:PO X y (tFO w0 (teo c Z hi))):
  PE X (.Subscript l (.Slice x y none p2) pos) (tF w0 (te c Z (.sl a lo hi))):=by
 refine PE.imp (Zh8 (Z98 (w0:=w0) G.eK) ha h1 h2) fun σ H Q zz91=>?_
 obtain⟨w,σD,M,QD,S,g,aq⟩:=zz91
 refine Yi S g fun x w1 dx M1 x1 r1 rx q1=>?_
 refine⟨w1,σD,M1,_,S.next x1 r1,q1,fun l w2 M2 x2 r2 q2=>?_⟩
 refine⟨w2,σD,M2,_,(S.next x1 r1).next x2 r2,q2,fun h w3 M3 x3 r3 q3=>?_⟩
 exact⟨w3,M3,dx,QD,rfl,by rw[x3.K,x2.K,x1.K,S.K],r3,rx.ext (x2.trans x3),q3,aq.ext ((x1.trans x2).trans x3)⟩
theorem Zh5{z:Expr}(h:isM1 z=true):∃y p q,z= .UnaryOp .USub (.Constant (.int 1) y p) q:=by
 unfold isM1 at h
 split at h
 ·rename_i j y p q
  have:j=1:=by simpa using h
  subst this
  exact⟨y,p,q,rfl⟩
 ·cases h
theorem Bp{a:E}{l z:Expr}{p2 pos:Pos}(G:Good c k Z w0 X)(ha:PE X l (tF w0 (te c Z a)))(hz:isM1 z=true):PE X (.Subscript l (.Slice none none (some z) p2) pos) (tF w0 (te c Z (.rev a))):=by
 obtain⟨y,p,q,rfl⟩:=Zh5 hz
 refine PE.imp (Zx2 ha (Z74 (Zy3 Zl0 Zi6))) fun σ H Q zz92=>?_
 obtain⟨w,σD,M,QD,S,g,aq⟩:=zz92
 refine Yi S g fun x w1 dx M1 x1 r1 rx q1=>?_
 split at q1
 ·obtain⟨xs,z1,z2⟩:=q1
  obtain⟨_,rfl⟩:=Zv.mp rx
  obtain⟨_,vs,y1,y2,_⟩:=r1.listL z1
  have hK:w1.K=X.K:=by rw[x1.K,S.K,G.eK]
  rw[hK] at y1
  refine⟨1,rfl,-1,rfl,rfl,_,vs,rfl,y1,fun p hp=>?_⟩
  obtain⟨t1,t2,t3⟩:=W7 r1 hp y2.reverse
  exact aq _ _ _ _ (x1.trans t1) t2 t3 z2
 ·exact q1.elim
theorem Z56{a b:E}{l r:Expr}{pos:Pos}(G:Good c k Z w0 X)(ha:PE X l (tF w0 (te c Z a)))(hb:PE X r (tF w0 (te c Z b))):PE X (.Dict [some l] [r] pos) (tF w0 (te c Z (.dct a b))):=by
 refine PE.imp (Z50 (Pj ha hb Z59) rfl rfl (by simp) (by simp)) fun σ H Q zz93=>?_
 obtain⟨w,σD,M,QD,S,g,aq⟩:=zz93
 intro p hp
 rw[←S.heap] at hp
 obtain⟨y1,y2,y3⟩:=T2 (xs:=[]) (vs:=[]) S.rs hp (by unfold RKV;rfl)
 have hup:upd H p (.dK [])=(w.push p (.dK [])).H:=by rw[←S.heap];rfl
 have eμ:(w.push p (.dK [])).μ M.length=p:=by
  show(if M.length=w.n then p else w.μ M.length)=p
  rw[if_pos S.rs.len.symm]
 have ln:M.length< (w.push p (.dK [])).n:=by show M.length<w.n+1;rw[S.rs.len];omega
 rw[hup]
 refine Yi (S.next y1 y2) g fun x w1 dx M1 x1 r1 rx q1=>?_
 refine Yi ((S.next y1 y2).next x1 r1) q1 fun y w2 dy M2 x2 r2 ry q2=>?_
 obtain⟨kk,e1,e2,e3⟩:=q2
 obtain⟨hn,vs,u1,u2⟩:=r2.dict e2
 rw[(x1.trans x2).μ _ ln,eμ] at u1
 have ev:vs=[]:=by have:=u2.length;exact List.length_eq_zero_iff.mp (by simpa using this)
 subst ev
 cases Vn e1 (rx.ext x2)
 refine⟨u1,[(kk,y)],rfl,by simp,?_⟩
 have u1':w2.H (w2.μ M.length)=some (.dK []):=by rw[(x1.trans x2).μ _ ln,eμ];exact u1
 obtain⟨t1,t2⟩:=Vg (vs:=[(kk,y)]) (xs:=[(kk,dy)]) r2 hn u1' (by
  have:=(show RKV w2 [] [] by unfold RKV;rfl).put (k:=kk) ry
  exact this)
 have rr:RD (w2.alloc (w2.μ M.length) (.dK [(kk,y)])) (.ref M.length) (.ref p):=(y3.ext (x1.trans x2)).ext t1
 have:=aq _ _ _ _ (((y1.trans x1).trans x2).trans t1) t2 rr e3
 have hf:(w2.alloc (w2.μ M.length) (.dK [(kk,y)])).H=upd w2.H p (.dK (Ri [] [(kk,y)])):=by
  show upd w2.H (w2.μ M.length) (.dK [(kk,y)])=_
  rw[(x1.trans x2).μ _ ln,eμ]
  rfl
 rw[←hf]
 exact this
theorem B8{a b d e:E}{l r l2 r2:Expr}{pos:Pos}(G:Good c k Z w0 X)(ha:PE X l (tF w0 (te c Z a)))(hb:PE X r (tF w0 (te c Z b)))(hd:PE X l2 (tF w0 (te c Z d)))(he:PE X r2 (tF w0 (te c Z e))):PE X (.Dict [some l,some l2] [r,r2] pos) (tF w0 (te c Z (.dct2 a b d e))):=by
 refine PE.imp (Z50 (Pj ha hb (Pj hd he Z59)) rfl rfl (by simp) (by simp)) fun σ H Q zz94=>?_
 obtain⟨w,σD,M,QD,S,g,aq⟩:=zz94
 intro p hp
 rw[←S.heap] at hp
 obtain⟨y1,y2,y3⟩:=T2 (xs:=[]) (vs:=[]) S.rs hp (by unfold RKV;rfl)
 have hup:upd H p (.dK [])=(w.push p (.dK [])).H:=by rw[←S.heap];rfl
 have eμ:(w.push p (.dK [])).μ M.length=p:=by
  show(if M.length=w.n then p else w.μ M.length)=p
  rw[if_pos S.rs.len.symm]
 have ln:M.length< (w.push p (.dK [])).n:=by show M.length<w.n+1;rw[S.rs.len];omega
 rw[hup]
 have S0:=S.next y1 y2
 refine Yi S0 g fun x w1 dx M1 x1 r1 rx q1=>?_
 have S1:=S0.next x1 r1
 refine Yi S1 q1 fun y w2 dy M2 x2 r2 ry q2=>?_
 have S2:=S1.next x2 r2
 refine Yi S2 q2 fun z w3 dz M3 x3 r3 rz q3=>?_
 have S3:=S2.next x3 r3
 refine Yi S3 q3 fun u w4 du M4 x4 r4 ru q4=>?_
 obtain⟨kk,k2,e1,e2,e3,e4⟩:=q4
 have xx:=((x1.trans x2).trans x3).trans x4
 obtain⟨hn,vs,u1,u2⟩:=r4.dict e3
 rw[xx.μ _ ln,eμ] at u1
 have ev:vs=[]:=by have:=u2.length;exact List.length_eq_zero_iff.mp (by simpa using this)
 subst ev
 cases Vn e1 (rx.ext ((x2.trans x3).trans x4))
 cases Vn e2 (rz.ext x4)
 refine⟨u1,[(kk,y),(k2,u)],rfl,by simp,?_⟩
 have u1':w4.H (w4.μ M.length)=some (.dK []):=by rw[xx.μ _ ln,eμ];exact u1
 have rk:RKV w4 (putD (putD [] kk dy) k2 du) (putK (putK [] kk y) k2 u):=((show RKV w4 [] [] by unfold RKV;rfl).put (k:=kk) (ry.ext (x3.trans x4))).put (k:=k2) ru
 obtain⟨t1,t2⟩:=Vg (vs:=putK (putK [] kk y) k2 u) (xs:=putD [(kk,dy)] k2 du) r4 hn u1' rk
 have rr:RD (w4.alloc (w4.μ M.length) (.dK (putK (putK [] kk y) k2 u))) (.ref M.length) (.ref p):=(y3.ext xx).ext t1
 have:=aq _ _ _ _ ((y1.trans xx).trans t1) t2 rr e4
 have hf:(w4.alloc (w4.μ M.length) (.dK (putK (putK [] kk y) k2 u))).H=upd w4.H p (.dK (Ri [] [(kk,y),(k2,u)])):=by
  show upd w4.H (w4.μ M.length) (.dK (putK (putK [] kk y) k2 u))=_
  rw[xx.μ _ ln,eμ]
  rfl
 rw[←hf]
 exact this
theorem Zc8{a b:E}{l r:Expr}{pos:Pos}(G:Good c k Z w0 X)(hn:Gk r=true)(ha:PE X l (tF w0 (te c Z a)))(hb:PE X r (tF w0 (te c Z b))):PE X (.Subscript l r pos) (tF w0 (te c Z (.ix a b))):=by
 have pl:Bq r:=by
  intro o i
  cases r<;>first | rfl | cases hn
 refine PE.imp (Y44 (Zi0 (w0:=w0) G.eK G.units) ha hb pl) fun σ H Q zz95=>?_
 obtain⟨w,σD,M,QD,S,g,aq⟩:=zz95
 refine Yi S g fun x w1 dx M1 x1 r1 rx q1=>?_
 refine Yi (S.next x1 r1) q1 fun y w2 dy M2 x2 r2 ry q2=>?_
 exact⟨w2,M2,dx,dy,_,rfl,by rw[x2.K,x1.K,S.K],r2,rx.ext x2,ry,q2,fun d v hq hr=>aq v w2 d M2 (x1.trans x2) r2 hr hq⟩
theorem Qx{N':List Str}{js:List (Option Nat)}{tg:List Nat}{it:It}{cd:Eo}{e:E}{el t iter:Expr}{ifs:List Expr}{scope:Scope}{pos:Pos}(G:Good c k Z w0 X)(hc:k.calm=true)(ho:Vr k.sc k.N N' js scope=true)(hns:Cp iter=true)(hn:N'.Nodup)
  (hi:PI X t iter (iF w0 (tit c Z it))) (ht:Pf {k with N:=N',sc:=Wp scope k.sc,cells:=false,own:=G6 scope,tries:=false,raises:=[]} tg t=true) (hd:chkC {k with N:=N',sc:=Wp scope k.sc,cells:=false,own:=G6 scope,tries:=false,raises:=[]} cd ifs=true) (he:chkE {k with N:=N',sc:=Wp scope k.sc,cells:=false,own:=G6 scope,tries:=false,raises:=[]} e el=true) (ihe:Zk7 c e) (ihd:Zk0 c cd):
  PE X (.ListComp el [⟨t,iter,ifs,0⟩] scope pos) (tF w0 (te c Z (.comp N' js tg it cd e)))∧
  ∀(i:Nat) (x:Str) (px spos:Pos),X.N[i]?=some x→X.env.scope.names.lookup x=some .local→swapsWith (.ListComp el [⟨t,iter,ifs,0⟩] scope pos) (some (.Name x px)) spos.line X.env=pure true→
   PS X (.Assign [.Name x px] (.ListComp el [⟨t,iter,ifs,0⟩] scope pos) spos) (fun R σ H=>tF w0 (te c Z (.comp N' js tg it cd e)) σ H fun v H1=>R.nx (σ.set i (some v)) H1):=by
 have ho':Vr X.env.scope X.N N' js scope=true:=by rw[G.sc,G.N];exact ho
 have hf:∀x,foldedSetIterable iter X.env x=pure x:=by
  intro x
  cases iter<;>first | rfl | cases hns
 have hg:=fun cl C fp pins s H=>(Good.block G hc (scope:=scope) hn cl C fp pins s H).tgt tg t ht
 have hel:=fun cl C fp pins s H=>(ihe _ _ _ _ el (Good.block G hc (scope:=scope) hn cl C fp pins s H) he).1
 have key:∀σ H Q,tF w0 (te c Z (.comp N' js tg it cd e)) σ H Q→iF w0 (tit c Z it) σ H fun J H1=>∀p,H1 p=none→∃W:Nat→Nat→L2.St→Hp→Prop,(∃m,W 0 m (Tf js σ) (upd H1 p (.lst [])))∧
   ∀i m σc Hc,W i m σc Hc→(J.stop i Hc∧Q (.ref p) Hc)∨(J.go i Hc∧∀x H',J.yld i Hc x H'→gF w0 tg x σc H' fun σ2 H2=>tFT w0 (tcd c noX cd) σ2 H2 fun b H3=>if b=true then tF w0 (te c noX e) σ2 H3 fun y H4=>∃acc,H4 p=some (.lst acc)∧acc.length<sizeLine∧
    ∃m',m'<m∧W (i+1) m' σ2 (upd H4 p (.lst (acc++[y]))) else ∃m',m'<m∧W (i+1) m' σ2 H3):=by
  rintro σ H Q ⟨w,σD,M,QD,S,g,a⟩
  refine⟨w,σD,M,_,S,g,fun J w1 own xs M1 x1 R1 jk q1=>?_⟩
  exact Zc2 (S.ext.trans x1) rfl R1 (Zl3 (S.env.ext x1)) jk q1 fun v w2 d M2 x2 r2 rd2 zz96=>by obtain⟨e2,q2⟩:=zz96;exact a v w2 d M2 (x1.trans x2) r2 rd2 (by rw[e2];exact q2)
 have nocd:∀{σ:L2.St} {H:Hp} {P:Bool→Hp→Prop},cd= .no→tFT w0 (tcd c noX cd) σ H P→P true H:=by
  intro σ H P e h
  subst e
  obtain⟨w,σD,M,QD,S,g,a⟩:=h
  have:=a true w M (Ext.refl w) S.rs g
  rw[S.heap] at this
  exact this
 cases ifs with
 | nil=>
  have hcd:cd= .no:=by
   cases cd with
   | no=>rfl
   | yes e'=>exact absurd hd Bool.false_ne_true
  have key0:∀σ H Q,tF w0 (te c Z (.comp N' js tg it cd e)) σ H Q→Z72 js (iF w0 (tit c Z it)) (gF w0 tg) (tF w0 (te c noX e)) σ H Q:=by
   intro σ H Q h
   obtain⟨w,σD,M,QD,S,g,a⟩:=key σ H Q h
   refine⟨w,σD,M,QD,S,g,fun J w' own xs M' x' r' jk q p hp=>?_⟩
   obtain⟨W,w1,w2⟩:=a J w' own xs M' x' r' jk q p hp
   refine⟨W,w1,fun i m σc Hc hW=>(w2 i m σc Hc hW).imp id fun⟨z1,z2⟩=>⟨z1,fun x H' hy=>?_⟩⟩
   obtain⟨v1,v2,v3,v4,v5,v6,v7,v8,v9⟩:=z2 x H' hy
   refine⟨v1,v2,v3,v4,v5,v6,v7,v8,fun σ' σD' en q'=>?_⟩
   have:=nocd hcd (v9 σ' σD' en q')
   rw[if_pos rfl] at this
   exact this
  exact⟨PE.imp (Zh0 (G.calm hc) ho' hi hg hel hf) key0,fun i x px spos h1 h2 h3=>PS.imp (Zg2 (G.calm hc) ho' G.nd h1 h2 hi hg hel h3 hf) fun R σ H h=>key0 σ H _ h⟩
 | cons x0 ifs=>
  have hq:∀cl C fp pins s H,∃x,x0::ifs=[x]∧PT (cxC X N' scope cl C fp pins s H) x (tFT w0 (tcd c noX cd)):=fun cl C fp pins s H=>by
   rcases ihd.2 _ _ _ _ (x0::ifs) (Good.block G hc (scope:=scope) hn cl C fp pins s H) hd with h | ⟨h,_⟩
   ·exact h
   ·cases h
  have e0:ifs=[]:=by
   cases cd with
   | no=>exact absurd hd Bool.false_ne_true
   | yes e'=>
    cases ifs with
    | nil=>rfl
    | cons _ _=>exact absurd hd Bool.false_ne_true
  subst e0
  have hq':∀cl C fp pins s H,PT (cxC X N' scope cl C fp pins s H) x0 (tFT w0 (tcd c noX cd)):=fun cl C fp pins s H=>by
   obtain⟨x,h1,h2⟩:=hq cl C fp pins s H
   cases h1
   exact h2
  exact⟨PE.imp (Zb9 (G.calm hc) ho' hi hg hq' hel hf) key,fun i x px spos h1 h2 h3=>PS.imp (Zc1 (G.calm hc) ho' G.nd h1 h2 hi hg hq' hel h3 hf) fun R σ H h=>key σ H _ h⟩
end
section
variable{c:Cfg}{k:Ck}{Z:DX}{w0:Vw}{X:Cx}
theorem te_cmp_bl{op:Cm}{a b:E}(σD:DEnv)(M:Z0)(QD:DK)(h:te c Z (.cmp op a b) σD M QD):te c Z (.cmp op a b) σD M fun d M'=>(∃b,d= .bl b)∧QD d M':=by
 have e:(fun(d:D) (M':Z0)=>QD d M')=QD:=rfl
 unfold te at h ⊢
 have:(fun(x:D) (M1:Z0)=>te c Z b σD M1 fun y M2=>cmD M2 op x y fun r=>QD (.bl r) M2)=fun x M1=>te c Z b σD M1 fun y M2=>cmD M2 op x y fun r=>(∃b,D.bl r= .bl b)∧QD (.bl r) M2:=by
  funext x M1
  congr 1
  funext y M2
  congr 1
  funext r
  exact propext ⟨fun h=>⟨⟨r,rfl⟩,h⟩,fun h=>h.2⟩
 rw[this] at h
 exact h
theorem Zm7{a b:Expr}{rest:List Expr}{pos:Pos}{ta tb:TE}(ha:PE X a ta)(hb:PE X (.BoolOp .And (b::rest) pos) tb):PE X (.BoolOp .And (a::b::rest) pos) (fun σ H Q=>ta σ H fun x H1=>∃z,TruV X.K x H1 z∧if z=true then tb σ H1 Q else Q x H1):=by
 intro pins s σ H Q I h
 refine BoolOp_and (thn (ha pins s σ H _ I h) fun v s1 zz98=>?_)
 obtain⟨x,H1,I1,r1,q1⟩:=zz98
 refine thn (E6 pins s1 σ H1 x v (fun z H2=>if z=true then tb σ H2 Q else Q x H2) I1 r1 q1) fun z s2 zz99=>?_
 obtain⟨H2,I2,q2⟩:=zz99
 cases z with
 | true=>exact hb pins s2 σ H2 Q I2 (by rw[if_pos rfl] at q2;exact q2)
 | false=>exact⟨x,H2,I2,r1,by rw[if_neg Bool.false_ne_true] at q2;exact q2⟩
theorem Zz0{a b:Expr}{rest:List Expr}{pos:Pos}{ta tb:TE}(ha:PE X a ta)(hb:PE X (.BoolOp .Or (b::rest) pos) tb):PE X (.BoolOp .Or (a::b::rest) pos) (fun σ H Q=>ta σ H fun x H1=>∃z,TruV X.K x H1 z∧if z=true then Q x H1 else tb σ H1 Q):=by
 intro pins s σ H Q I h
 refine BoolOp_or (thn (ha pins s σ H _ I h) fun v s1 zz100=>?_)
 obtain⟨x,H1,I1,r1,q1⟩:=zz100
 refine thn (E6 pins s1 σ H1 x v (fun z H2=>if z=true then Q x H2 else tb σ H2 Q) I1 r1 q1) fun z s2 zz101=>?_
 obtain⟨H2,I2,q2⟩:=zz101
 cases z with
 | false=>exact hb pins s2 σ H2 Q I2 (by rw[if_neg Bool.false_ne_true] at q2;exact q2)
 | true=>exact⟨x,H2,I2,r1,by rw[if_pos rfl] at q2;exact q2⟩
theorem Jj{M:Z0}{n:Nat}{xs:List D}{ys:List (Key×D)}(h1:Za M n=some xs)(h2:Zd M n=some ys):False:=by
 unfold Za at h1
 unfold Zd at h2
 cases h:M[n]? with
 | none=>rw[h] at h2;cases h2
 | some c=>rw[h] at h1 h2;cases c<;>simp at h1 h2
theorem Fa{M:Z0}{x:D}{k:Bool}{A:Prop}{P:Bool→Prop}:truD M x (fun b=>if b=k then A else truD M x P)=truD M x (fun b=>if b=k then A else P b):=by
 cases x with
 | str y=>
  apply propext
  show(y.length≤sizeLine∧if ((y.length:Int) !=0)=k then A else(y.length≤sizeLine∧P ((y.length:Int) !=0)))↔(y.length≤sizeLine∧if ((y.length:Int) !=0)=k then A else P ((y.length:Int) !=0))
  split<;>simp (config:={contextual:=true})
 | ref n=>
  apply propext
  have key:∀Q:Bool→Prop,truD M (.ref n) Q↔(∃xs,Za M n=some xs∧Q (!xs.isEmpty))∨(∃xs,Zd M n=some xs∧Q (!xs.isEmpty)):=fun Q=>Iff.rfl
  constructor
  ·intro h
   rcases(key _).mp h with⟨xs,h1,h2⟩ | ⟨xs,h1,h2⟩
   ·refine(key _).mpr (.inl ⟨xs,h1,?_⟩)
    split at h2
    ·rename_i e;rw[if_pos e];exact h2
    ·rename_i e
     rw[if_neg e]
     rcases(key _).mp h2 with⟨ys,g1,g2⟩ | ⟨ys,g1,g2⟩
     ·rw[h1] at g1;cases g1;exact g2
     ·exact(Jj h1 g1).elim
   ·refine(key _).mpr (.inr ⟨xs,h1,?_⟩)
    split at h2
    ·rename_i e;rw[if_pos e];exact h2
    ·rename_i e
     rw[if_neg e]
     rcases(key _).mp h2 with⟨ys,g1,g2⟩ | ⟨ys,g1,g2⟩
     ·exact(Jj g1 h1).elim
     ·rw[h1] at g1;cases g1;exact g2
  ·intro h
   rcases(key _).mp h with⟨xs,h1,h2⟩ | ⟨xs,h1,h2⟩
   ·refine(key _).mpr (.inl ⟨xs,h1,?_⟩)
    split at h2
    ·rename_i e;rw[if_pos e];exact h2
    ·rename_i e;rw[if_neg e];exact(key _).mpr (.inl ⟨xs,h1,h2⟩)
   ·refine(key _).mpr (.inr ⟨xs,h1,?_⟩)
    split at h2
    ·rename_i e;rw[if_pos e];exact h2
    ·rename_i e;rw[if_neg e];exact(key _).mpr (.inr ⟨xs,h1,h2⟩)
 | non=>rfl
 | bl b=>rfl
 | int i=>rfl
 | tup xs=>rfl
 | _=>rfl
theorem te_bop_tt{e e2:E}{r:Es}{σD:DEnv}{M:Z0}{QD:Bool→Z0→Prop}(h:ttD (tbop c Z true (.cons e (.cons e2 r))) σD M QD):
  ttD (te c Z e) σD M fun z M1=>if z=true then ttD (tbop c Z true (.cons e2 r)) σD M1 QD else QD false M1:=by
 have hh:(fun(x:D) (M1:Z0)=>truD M1 x fun b=>if b=true then ttD (tbop c Z true (.cons e2 r)) σD M1 QD else truD M1 x fun b=>QD b M1)=
   fun x M1=>truD M1 x fun z=>if z=true then ttD (tbop c Z true (.cons e2 r)) σD M1 QD else QD false M1:=by
  funext x M1
  rw[Fa]
  congr 1
  funext b
  cases b<;>rfl
 have h':te c Z e σD M fun(x:D) (M1:Z0)=>truD M1 x fun b=>if b=true then ttD (tbop c Z true (.cons e2 r)) σD M1 QD else truD M1 x fun b=>QD b M1:=h
 rw[hh] at h'
 exact h'
theorem te_bop_ff{e e2:E}{r:Es}{σD:DEnv}{M:Z0}{QD:Bool→Z0→Prop}(h:ttD (tbop c Z false (.cons e (.cons e2 r))) σD M QD):
  ttD (te c Z e) σD M fun z M1=>if z=true then QD true M1 else ttD (tbop c Z false (.cons e2 r)) σD M1 QD:=by
 have hh:(fun(x:D) (M1:Z0)=>truD M1 x fun b=>if b=false then ttD (tbop c Z false (.cons e2 r)) σD M1 QD else truD M1 x fun b=>QD b M1)=
   fun x M1=>truD M1 x fun z=>if z=true then QD true M1 else ttD (tbop c Z false (.cons e2 r)) σD M1 QD:=by
  funext x M1
  rw[Fa]
  congr 1
  funext b
  cases b<;>rfl
 have h':te c Z e σD M fun(x:D) (M1:Z0)=>truD M1 x fun b=>if b=false then ttD (tbop c Z false (.cons e2 r)) σD M1 QD else truD M1 x fun b=>QD b M1:=h
 rw[hh] at h'
 exact h'
end
theorem Z21{k:Ck}{a:E}{ex:Expr}(h:chkE k (.rev a) ex=true):∃l z p2 pos,ex= .Subscript l (.Slice none none (some z) p2) pos∧(chkE k a l&&isM1 z)=true:=by
 cases ex with
 | Subscript l r pos=>
  cases r with
  | Slice x y z p2=>
   cases x with
   | some _=>exact absurd h Bool.false_ne_true
   | none=>
   cases y with
   | some _=>exact absurd h Bool.false_ne_true
   | none=>
   cases z with
   | none=>exact absurd h Bool.false_ne_true
   | some z=>exact⟨_,_,_,_,rfl,h⟩
  | _=>exact absurd h Bool.false_ne_true
 | _=>exact absurd h Bool.false_ne_true
theorem Bl{k:Ck}{a b c d:E}{ex:Expr}(h:chkE k (.dct2 a b c d) ex=true):∃l r l2 r2 pos,ex= .Dict [some l,some l2] [r,r2] pos∧(chkE k a l&&chkE k b r&&chkE k c l2&&chkE k d r2)=true:=by
 cases ex with
 | Dict ks vs pos=>
  match ks,vs,h with
  | [some l,some l2],[r,r2],h=>exact⟨l,r,l2,r2,pos,rfl,h⟩
 | _=>exact absurd h Bool.false_ne_true
theorem Z91{k:Ck}{a b:E}{ex:Expr}(h:chkE k (.dct a b) ex=true):∃l r pos,ex= .Dict [some l] [r] pos∧(chkE k a l&&chkE k b r)=true:=by
 cases ex with
 | Dict ks vs pos=>
  cases ks with
  | nil=>exact absurd h Bool.false_ne_true
  | cons k0 ks=>
  cases k0 with
  | none=>exact absurd h Bool.false_ne_true
  | some l=>
  cases ks with
  | cons _ _=>exact absurd h Bool.false_ne_true
  | nil=>
  cases vs with
  | nil=>exact absurd h Bool.false_ne_true
  | cons r vs=>
  cases vs with
  | cons _ _=>exact absurd h Bool.false_ne_true
  | nil=>exact⟨l,r,pos,rfl,h⟩
 | _=>exact absurd h Bool.false_ne_true
theorem Z82{k:Ck}{es:Es}{ex:Expr}(h:Zg8 k (.zip es) ex=true):∃l ls p q,ex= .Call (.Name "zip" p) (l::ls) [] q∧(k.glob "zip"&&k.BN.contains "zip"&&Xp k es (l::ls))=true:=by
 cases ex with
 | Call fn as kws q=>
  cases fn with
  | Name x p=>
   cases as with
   | nil=>exact absurd h Bool.false_ne_true
   | cons l ls=>
   cases kws with
   | cons _ _=>exact absurd h Bool.false_ne_true
   | nil=>
    change (_&&_)=true at h
    simp only[Bool.and_eq_true,beq_iff_eq] at h
    obtain⟨⟨⟨rfl,h1⟩,h2⟩,h3⟩:=h
    refine⟨l,ls,p,q,rfl,?_⟩
    simp only[Bool.and_eq_true]
    exact⟨⟨h1,h2⟩,h3⟩
  | _=>exact absurd h Bool.false_ne_true
 | _=>exact absurd h Bool.false_ne_true
mutual
theorem Zp(c:Cfg):∀e:E,Zk7 c e
 | .var i,k,Z,w0,X,ex,G,h=>by
  cases ex with
  | Name x pos=>
   change (_&&_)=true at h
   simp only[Bool.and_eq_true,beq_iff_eq] at h
   exact both G (Z85 G h.1 h.2) fun _=>rfl
  | _=>exact absurd h Bool.false_ne_true
 | .int i,k,Z,w0,X,ex,G,h=>by
  cases ex with
  | Constant v j pos=>
   cases v with
   | int m=>
    change (_==_)=true at h
    simp only[beq_iff_eq] at h
    subst h
    exact both G (PE.imp Zi6 fun σ H Q q=>Qa (fun _ _=>Zf.mpr rfl) q) fun _=>rfl
   | _=>exact absurd h Bool.false_ne_true
  | _=>exact absurd h Bool.false_ne_true
 | .bl i,k,Z,w0,X,ex,G,h=>by
  cases ex with
  | Constant v j pos=>
   cases v with
   | bool m=>
    change (_==_)=true at h
    simp only[beq_iff_eq] at h
    subst h
    exact both G (PE.imp Y67 fun σ H Q q=>Qa (fun _ _=>Xx.mpr rfl) q) fun _=>rfl
   | _=>exact absurd h Bool.false_ne_true
  | _=>exact absurd h Bool.false_ne_true
 | .non,k,Z,w0,X,ex,G,h=>by
  cases ex with
  | Constant v j pos=>
   cases v with
   | none=>exact both G (PE.imp Zw9 fun σ H Q q=>Qa (fun _ _=>Yc.mpr rfl) q) fun _=>rfl
   | _=>exact absurd h Bool.false_ne_true
  | _=>exact absurd h Bool.false_ne_true
 | .str i,k,Z,w0,X,ex,G,h=>by
  cases ex with
  | Constant v j pos=>
   cases v with
   | str m=>
    change (_==_)=true at h
    simp only[beq_iff_eq] at h
    subst h
    exact both G (PE.imp Y42 fun σ H Q q=>Qa (fun _ _=>Yb.mpr rfl) q) fun _=>rfl
   | _=>exact absurd h Bool.false_ne_true
  | _=>exact absurd h Bool.false_ne_true
 | .ty t,k,Z,w0,X,ex,G,h=>by
  cases ex with
  | Name x pos=>
   change (_&&_)=true at h
   simp only[Bool.and_eq_true,beq_iff_eq,List.contains_iff_mem] at h
   obtain⟨g1,g2,g3⟩:=G.gl h.1.2
   exact both G (PE.imp (Zp8 (v:= .ty (Xa t)) g1 (G.blt x h.2) (by rw[h.1.1];exact Zo9 t) rfl g3 g2) fun σ H Q q=>Qa (fun _ _=>Zp4.mpr rfl) q) fun _=>rfl
  | _=>exact absurd h Bool.false_ne_true
 | .glb g,k,Z,w0,X,ex,G,h=>by
  cases ex with
  | Name x pos=>
   change (_&&_)=true at h
   simp only[Bool.and_eq_true,beq_iff_eq] at h
   exact both G (Bu G h.1 h.2) fun _=>rfl
  | _=>exact absurd h Bool.false_ne_true
 | .bin op a b,k,Z,w0,X,ex,G,h=>by
  cases ex with
  | BinOp l o r pos=>
   change (_&&_)=true at h
   simp only[Bool.and_eq_true,beq_iff_eq] at h
   obtain⟨⟨rfl,h1⟩,h2⟩:=h
   exact both G (PE.imp (Y49 (Zb4 (w0:=w0) op) (Zp c a k Z w0 X l G h1).1 (Zp c b k Z w0 X r G h2).1) fun σ H Q q=>Z79 q) fun _=>rfl
  | _=>exact absurd h Bool.false_ne_true
 | .neg a,k,Z,w0,X,ex,G,h=>by
  cases ex with
  | UnaryOp o l pos=>
   cases o with
   | USub=>
    have h1:chkE k a l=true:=h
    refine both G (PE.imp (Zy3 Zl0 (Zp c a k Z w0 X l G h1).1) fun σ H Q zz102=>?_) fun _=>rfl
    obtain⟨w,σD,M,QD,S,g,aq⟩:=zz102
    refine Yi S g fun x w1 dx M1 x1 r1 rx q1=>?_
    split at q1
    ·cases Zf.mp rx
     exact⟨_,rfl,aq _ w1 _ M1 x1 r1 (Zf.mpr rfl) q1⟩
    ·exact q1.elim
   | _=>exact absurd h Bool.false_ne_true
  | _=>exact absurd h Bool.false_ne_true
 | .not a,k,Z,w0,X,ex,G,h=>by
  cases ex with
  | UnaryOp o l pos=>
   cases o with
   | Not=>
    have h1:chkE k a l=true:=h
    obtain⟨i1,i2⟩:=Zp c a k Z w0 X l G h1
    refine⟨PE.imp (Zo6 i1) fun σ H Q ⟨w,σD,M,QD,S,g,aq⟩=>?_,fun hn=>PT.imp (Zu6 (i2 hn)) fun σ H Q ⟨w,σD,M,QD,S,g,aq⟩=>?_⟩
    ·refine Yi S g fun x w1 dx M1 x1 r1 rx q1=>?_
     obtain⟨b,t1,t2⟩:=Vy (K:=X.K) (by rw[x1.K,S.K,G.eK]) r1 rx q1
     exact⟨b,t1,aq _ w1 _ M1 x1 r1 (Xx.mpr rfl) t2⟩
    ·exact⟨w,σD,M,fun b M1=>QD (!b) M1,S,g,fun b w' M' x' r' q'=>aq _ w' M' x' r' q'⟩
   | _=>exact absurd h Bool.false_ne_true
  | _=>exact absurd h Bool.false_ne_true
 | .cmp op a b,k,Z,w0,X,ex,G,h=>by
  cases ex with
  | Compare l os rs pos=>
   match os,rs,h with
   | [o],[r],h=>
    change (_&&_)=true at h
    simp only[Bool.and_eq_true,beq_iff_eq] at h
    obtain⟨⟨⟨rfl,h0⟩,h1⟩,h2⟩:=h
    have hm:behindInMarks (cmOf op) r=false:=by
     cases r with
     | Set es kk p=>cases op<;>first | (simp[isIn,Cp] at h0;done) | (simp[behindInMarks,cmOf])
     | _=>rfl
    have ia:=(Zp c a k Z w0 X l G h1).1
    have ib:=(Zp c b k Z w0 X r G h2).1
    refine⟨PE.imp (Zp9 (Eu (w0:=w0) G.eK G.units op) ia ib hm) fun σ H Q q=>Ow q,fun _=>Zr0 (PT.imp (Zn0 (Eu (w0:=w0) G.eK G.units op) ia ib hm) fun σ H Q q=>Ow q) te_cmp_bl⟩
   | [],_,h=>exact absurd h Bool.false_ne_true
   | [_],[],h=>exact absurd h Bool.false_ne_true
   | [_],_::_::_,h=>exact absurd h Bool.false_ne_true
   | _::_::_,_,h=>exact absurd h Bool.false_ne_true
  | _=>exact absurd h Bool.false_ne_true
 | .bop b es,k,Z,w0,X,ex,G,h=>by
  cases ex with
  | BoolOp o ls pos=>
   cases b with
   | true=>
    cases o with
    | And=>
     obtain⟨i1,i2⟩:=(Xm c es k Z w0 X ls G h).2 true pos
     exact⟨i1,fun hn=>(i2 hn).pt⟩
    | Or=>exact absurd h Bool.false_ne_true
   | false=>
    cases o with
    | Or=>
     obtain⟨i1,i2⟩:=(Xm c es k Z w0 X ls G h).2 false pos
     exact⟨i1,fun hn=>(i2 hn).pt⟩
    | And=>exact absurd h Bool.false_ne_true
  | _=>cases b<;>exact absurd h Bool.false_ne_true
 | .ife t a b,k,Z,w0,X,ex,G,h=>by
  cases ex with
  | IfExp x l r pos=>
   change (_&&_)=true at h
   simp only[Bool.and_eq_true] at h
   refine⟨PE.imp (Zf0 ((Zp c t k Z w0 X x G h.1.1.1).2 h.2) (Zp c a k Z w0 X l G h.1.1.2).1 (Zp c b k Z w0 X r G h.1.2).1) fun σ H Q zz105=>?_,fun hn=>by simp[noIf] at hn⟩
   obtain⟨w,σD,M,QD,S,g,aq⟩:=zz105
   refine⟨w,σD,M,fun r M1=>if r=true then te c Z a σD M1 QD else te c Z b σD M1 QD,S,g,fun r w1 M1 x1 r1 q1=>?_⟩
   cases r with
   | true=>rw[if_pos rfl] at q1 ⊢;exact Yi (S.next x1 r1) q1 (aq.ext x1)
   | false=>rw[if_neg Bool.false_ne_true] at q1 ⊢;exact Yi (S.next x1 r1) q1 (aq.ext x1)
  | _=>exact absurd h Bool.false_ne_true
 | .lst es,k,Z,w0,X,ex,G,h=>by
  cases ex with
  | List ls pos=>
   refine both G (PE.imp (Zx3 (Xm c es k Z w0 X ls G h).1) fun σ H Q zz106=>?_) fun _=>rfl
   obtain⟨w,σD,M,QD,S,g,aq⟩:=zz106
   refine⟨w,σD,M,_,S,g,fun vs w1 ds M1 x1 r1 rd1 q1=>⟨by rw[rd1.length];exact q1.1,fun p hp=>?_⟩⟩
   obtain⟨y1,y2,y3⟩:=W7 r1 hp rd1
   exact aq _ _ _ _ (x1.trans y1) y2 y3 q1.2
  | _=>exact absurd h Bool.false_ne_true
 | .tup es,k,Z,w0,X,ex,G,h=>by
  cases ex with
  | Tuple ls kk pos=>
   refine both G (PE.imp (Zv7 (Xm c es k Z w0 X ls G h).1) fun σ H Q zz107=>?_) fun _=>rfl
   obtain⟨w,σD,M,QD,S,g,aq⟩:=zz107
   refine⟨w,σD,M,_,S,g,fun vs w1 ds M1 x1 r1 rd1 q1=>⟨by rw[rd1.length];exact q1.1,fun p hp=>?_⟩⟩
   obtain⟨y1,y2,y3⟩:=Te r1 hp rd1
   exact aq _ _ _ _ (x1.trans y1) y2 y3 q1.2
  | _=>exact absurd h Bool.false_ne_true
 | .dict0,k,Z,w0,X,ex,G,h=>by
  cases ex with
  | Dict ks vs pos=>
   match ks,vs,h with
   | [],[],h=>
    refine both G (PE.imp Zg4 fun σ H Q zz108=>?_) fun _=>rfl
    obtain⟨w,σD,M,QD,S,g,aq⟩:=zz108
    intro p hp
    rw[←S.heap] at hp
    obtain⟨y1,y2,y3⟩:=T2 (xs:=[]) (vs:=[]) S.rs hp (by unfold RKV;rfl)
    have:=aq _ _ _ _ y1 y2 y3 g
    rw[←S.heap]
    exact this
   | [],_::_,h=>exact absurd h Bool.false_ne_true
   | _::_,_,h=>exact absurd h Bool.false_ne_true
  | _=>exact absurd h Bool.false_ne_true
 | .dct2 a b d e,k,Z,w0,X,ex,G,h=>by
  obtain⟨l,r,l2,r2,pos,rfl,h2⟩:=Bl h
  simp only[Bool.and_eq_true] at h2
  exact both G (B8 G (Zp c a k Z w0 X l G h2.1.1.1).1 (Zp c b k Z w0 X r G h2.1.1.2).1 (Zp c d k Z w0 X l2 G h2.1.2).1 (Zp c e k Z w0 X r2 G h2.2).1) fun _=>rfl
 | .dct a b,k,Z,w0,X,ex,G,h=>by
  obtain⟨l,r,pos,rfl,h2⟩:=Z91 h
  rw[Bool.and_eq_true] at h2
  exact both G (Z56 G (Zp c a k Z w0 X l G h2.1).1 (Zp c b k Z w0 X r G h2.2).1) fun _=>rfl
 | .ix a b,k,Z,w0,X,ex,G,h=>by
  cases ex with
  | Subscript l r pos=>
   change (_&&_)=true at h
   simp only[Bool.and_eq_true] at h
   exact both G (Zc8 G h.1.1 (Zp c a k Z w0 X l G h.1.2).1 (Zp c b k Z w0 X r G h.2).1) fun _=>rfl
  | _=>exact absurd h Bool.false_ne_true
 | .sl a lo hi,k,Z,w0,X,ex,G,h=>by
  cases ex with
  | Subscript l r pos=>
   cases r with
   | Slice x y z p2=>
    cases z with
    | none=>
     change (_&&_)=true at h
     simp only[Bool.and_eq_true] at h
     exact both G (Zb3 G (Zp c a k Z w0 X l G h.1.1).1 ((Ek c lo).1 k Z w0 X x G h.1.2) ((Ek c hi).1 k Z w0 X y G h.2)) fun _=>rfl
    | some _=>exact absurd h Bool.false_ne_true
   | _=>exact absurd h Bool.false_ne_true
  | _=>exact absurd h Bool.false_ne_true
 | .rev a,k,Z,w0,X,ex,G,h=>by
  obtain⟨l,z,p2,pos,rfl,h2⟩:=Z21 h
  rw[Bool.and_eq_true] at h2
  exact both G (Bp G (Zp c a k Z w0 X l G h2.1).1 h2.2) fun _=>rfl
 | .callk es e,k,Z,w0,X,ex,G,h=>by
  cases ex with
  | Call fn ls kws pos=>
   cases fn with
   | Name x np=>
    cases ls with
    | nil=>exact absurd h Bool.false_ne_true
    | cons l ls=>
     cases kws with
     | nil=>exact absurd h Bool.false_ne_true
     | cons kw kws=>
      obtain⟨y,r,kp⟩:=kw
      cases y with
      | none=>cases kws<;>exact absurd h Bool.false_ne_true
      | some y=>
       cases kws with
       | cons _ _=>exact absurd h Bool.false_ne_true
       | nil=>
        change (_&&_)=true at h
        simp only[Bool.and_eq_true,beq_iff_eq] at h
        obtain⟨⟨⟨⟨⟨⟨h1,rfl⟩,h3⟩,rfl⟩,h4⟩,h5⟩,h6⟩:=h
        exact both G (G8 G h1 h3 (of_decide_eq_true h4) h5 (Xm c es k Z w0 X (l::ls) G h5).1 (Zp c e k Z w0 X r G h6).1) fun _=>rfl
   | _=>cases ls<;>exact absurd h Bool.false_ne_true
  | _=>exact absurd h Bool.false_ne_true
 | .call f es,k,Z,w0,X,ex,G,h=>by
  cases ex with
  | Call fn ls kws pos=>
   cases fn with
   | Name x np=>
    cases kws with
    | nil=>
     change (_&&_)=true at h
     simp only[Bool.and_eq_true,beq_iff_eq] at h
     exact both G (Cq G h.1.1.1 h.1.1.2 h.1.2 h.2 (Xm c es k Z w0 X ls G h.2).1) fun _=>rfl
    | cons _ _=>exact absurd h Bool.false_ne_true
   | _=>exact absurd h Bool.false_ne_true
  | _=>exact absurd h Bool.false_ne_true
 | .bf b es,k,Z,w0,X,ex,G,h=>by
  cases ex with
  | Call fn ls kws pos=>
   cases fn with
   | Name x np=>
    cases kws with
    | nil=>
     cases ls with
     | nil=>exact absurd h Bool.false_ne_true
     | cons l ls=>
      change (_&&_)=true at h
      simp only[Bool.and_eq_true,beq_iff_eq,Bool.or_eq_true,List.contains_iff_mem] at h
      exact both G (Za7 G h.1.1.1.1 h.1.1.1.2 h.1.1.2 h.1.2 h.2 (Xm c es k Z w0 X (l::ls) G h.2).1) fun _=>rfl
    | cons _ _=>cases ls<;>exact absurd h Bool.false_ne_true
   | _=>cases ls<;>cases kws<;>exact absurd h Bool.false_ne_true
  | _=>exact absurd h Bool.false_ne_true
 | .mt m o es,k,Z,w0,X,ex,G,h=>by
  cases ex with
  | Call fn ls kws pos=>
   cases fn with
   | Attribute l nm ap=>
    cases kws with
    | nil=>
     change (_&&_)=true at h
     simp only[Bool.and_eq_true,beq_iff_eq,decide_eq_true_eq] at h
     obtain⟨⟨⟨⟨⟨rfl,h1⟩,h2⟩,h3⟩,h4⟩,h5⟩:=h
     exact both G (Zh7 G h1 (by rw[h2];simp) h3 h5 (Zp c o k Z w0 X l G h4).1 (Xm c es k Z w0 X ls G h5).1) fun _=>rfl
    | cons _ _=>exact absurd h Bool.false_ne_true
   | _=>exact absurd h Bool.false_ne_true
  | _=>exact absurd h Bool.false_ne_true
 | .comp N' js tg it cd e,k,Z,w0,X,ex,G,h=>by
  cases ex with
  | ListComp el gens scope pos=>
   match gens,h with
   | [⟨t,iter,ifs,as⟩],h=>
    rcases as with(_ | n) | n
    ·change (_&&_)=true at h
     simp only[Bool.and_eq_true,decide_eq_true_eq] at h
     obtain⟨⟨⟨⟨⟨⟨⟨⟨h1,h2⟩,h3⟩,h4⟩,h5⟩,h6⟩,h7⟩,h8⟩,h9⟩:=h
     exact both G (Qx G h1 h2 h3 h5 (Z27 c it k Z w0 X t iter G h4 h9) h6 h7 h8 (Zp c e) (Ek c cd)).1 fun _=>rfl
    ·exact absurd h Bool.false_ne_true
    ·exact absurd h Bool.false_ne_true
   | [],h=>exact absurd h Bool.false_ne_true
   | ⟨_,_,_,as⟩::_::_,h=>rcases as with(_ | _) | _<;>exact absurd h Bool.false_ne_true
  | _=>exact absurd h Bool.false_ne_true
theorem Xm(c:Cfg):∀es:Es,Zt3 c es
 | .nil,k,Z,w0,X,ls,G,h=>by
  cases ls with
  | nil=>
   refine⟨PA.imp Fl fun σ H Q zz109=>?_,fun b pos=>⟨PE.imp (t:=fun _ _ _=>False) (fun _ _ _ _ _ _ h=>h.elim) fun σ H Q zz110=>by obtain⟨w,σD,M,QD,S,g,aq⟩:=zz110;exact g,fun _ whole pins s σ H Q I zz111=>by obtain⟨w,σD,M,QD,S,g,aq⟩:=zz111;exact g.elim⟩⟩
   obtain⟨w,σD,M,QD,S,g,aq⟩:=zz109
   have:=aq [] w [] M (Ext.refl w) S.rs (RDs.nil w) g
   rw[S.heap] at this
   exact this
  | cons l ls=>exact absurd h Bool.false_ne_true
 | .cons e r,k,Z,w0,X,ls,G,h=>by
  cases ls with
  | nil=>exact absurd h Bool.false_ne_true
  | cons l ls=>
   change (_&&_)=true at h
   simp only[Bool.and_eq_true] at h
   obtain⟨ie,it⟩:=Zp c e k Z w0 X l G h.1.1
   obtain⟨ir,ib⟩:=Xm c r k Z w0 X ls G h.2
   refine⟨PA.imp (Su ie ir (Zt h.1.2)) fun σ H Q ⟨w,σD,M,QD,S,g,aq⟩=>?_,fun b pos=>?_⟩
   ·refine Yi S g fun v w1 d M1 x1 r1 rd1 q1=>?_
    refine⟨w1,σD,M1,_,S.next x1 r1,q1,fun vs w2 ds M2 x2 r2 rd2 q2=>?_⟩
    exact aq _ w2 _ M2 (x1.trans x2) r2 (RDs.cons (rd1.ext x2) rd2) q2
   ·cases r with
    | nil=>
     cases ls with
     | cons _ _=>exact absurd h.2 Bool.false_ne_true
     | nil=>
      refine⟨PE.imp (Zv1 ie) fun σ H Q q=>q,fun hn=>?_⟩
      have hn':noIf e=true:=by simpa[Cv] using hn
      cases b with
      | true=>exact fun whole pins s σ H Q I q=>Zp2 (it hn') whole pins s σ H Q I q
      | false=>exact fun whole pins s σ H Q I q=>Y30 (it hn') whole pins s σ H Q I q
    | cons e2 r2=>
     cases ls with
     | nil=>exact absurd h.2 Bool.false_ne_true
     | cons l2 ls=>
      obtain⟨jb,jw⟩:=ib b pos
      constructor
      ·cases b with
       | true=>
        refine PE.imp (Zm7 ie jb) fun σ H Q zz113=>?_
        obtain⟨w,σD,M,QD,S,g,aq⟩:=zz113
        refine Yi S g fun v w1 d M1 x1 r1 rd1 q1=>?_
        obtain⟨z,t1,t2⟩:=Vy (K:=X.K) (by rw[x1.K,S.K,G.eK]) r1 rd1 q1
        refine⟨z,t1,?_⟩
        cases z with
        | true=>rw[if_pos rfl] at t2 ⊢;exact Yi (S.next x1 r1) t2 (aq.ext x1)
        | false=>rw[if_neg Bool.false_ne_true] at t2 ⊢;exact aq _ w1 _ M1 x1 r1 rd1 t2
       | false=>
        refine PE.imp (Zz0 ie jb) fun σ H Q zz114=>?_
        obtain⟨w,σD,M,QD,S,g,aq⟩:=zz114
        refine Yi S g fun v w1 d M1 x1 r1 rd1 q1=>?_
        obtain⟨z,t1,t2⟩:=Vy (K:=X.K) (by rw[x1.K,S.K,G.eK]) r1 rd1 q1
        refine⟨z,t1,?_⟩
        cases z with
        | false=>rw[if_pos rfl] at t2;rw[if_neg Bool.false_ne_true];exact Yi (S.next x1 r1) t2 (aq.ext x1)
        | true=>rw[if_neg (by decide)] at t2;rw[if_pos rfl];exact aq _ w1 _ M1 x1 r1 rd1 t2
      ·intro hn
       have hn':noIf e=true∧Cv (.cons e2 r2)=true:=by
        have:(noIf e&&Cv (.cons e2 r2))=true:=hn
        simpa using this
       have jw':=jw hn'.2
       cases b with
       | true=>
        rintro whole pins s σ H Q I ⟨w,σD,M,QD,S,g,aq⟩
        refine Zw0 (it hn'.1) jw' whole pins s σ H Q I ?_
        refine⟨w,σD,M,fun z M1=>if z=true then ttD (tbop c Z true (.cons e2 r2)) σD M1 QD else QD false M1,S,?_,fun z w1 M1 x1 r1 q1=>?_⟩
        ·exact te_bop_tt g
        ·cases z with
         | true=>rw[if_pos rfl] at q1 ⊢;exact⟨w1,σD,M1,QD,S.next x1 r1,q1,fun z w2 M2 x2 r2 q2=>aq z w2 M2 (x1.trans x2) r2 q2⟩
         | false=>rw[if_neg Bool.false_ne_true] at q1 ⊢;exact aq _ w1 M1 x1 r1 q1
       | false=>
        rintro whole pins s σ H Q I ⟨w,σD,M,QD,S,g,aq⟩
        refine Y77 (it hn'.1) jw' whole pins s σ H Q I ?_
        refine⟨w,σD,M,fun z M1=>if z=true then QD true M1 else ttD (tbop c Z false (.cons e2 r2)) σD M1 QD,S,?_,fun z w1 M1 x1 r1 q1=>?_⟩
        ·exact te_bop_ff g
        ·cases z with
         | true=>rw[if_pos rfl] at q1 ⊢;exact aq _ w1 M1 x1 r1 q1
         | false=>rw[if_neg Bool.false_ne_true] at q1 ⊢;exact⟨w1,σD,M1,QD,S.next x1 r1,q1,fun z w2 M2 x2 r2 q2=>aq z w2 M2 (x1.trans x2) r2 q2⟩
theorem Ek(c:Cfg):∀eo:Eo,Zk0 c eo
 | .no=>⟨fun k Z w0 X lo G h=>by
   cases lo with
   | none=>
    rintro pins s σ H Q I ⟨w,σD,M,QD,S,g,aq⟩
    refine Zl8 pins s σ H Q I ?_
    have:=aq none w M (Ext.refl w) S.rs g
    rw[S.heap] at this
    exact this
   | some _=>exact absurd h Bool.false_ne_true,fun k Z w0 X ls G h=>by
   cases ls with
   | nil=>exact .inr ⟨rfl,rfl⟩
   | cons _ _=>exact absurd h Bool.false_ne_true⟩
 | .yes e=>⟨fun k Z w0 X lo G h=>by
   cases lo with
   | none=>exact absurd h Bool.false_ne_true
   | some x=>
    rintro pins s σ H Q I ⟨w,σD,M,QD,S,g,aq⟩
    refine Z74 (Zp c e k Z w0 X x G h).1 pins s σ H Q I ?_
    refine Yi S g fun v w1 d M1 x1 r1 rd1 q1=>?_
    split at q1
    ·cases Zf.mp rd1
     exact⟨_,rfl,aq _ w1 M1 x1 r1 q1⟩
    ·exact q1.elim,fun k Z w0 X ls G h=>by
   match ls,h with
   | [x],h=>
    change (_&&_)=true at h
    simp only[Bool.and_eq_true] at h
    exact .inl ⟨x,rfl,(Zp c e k Z w0 X x G h.1).2 h.2⟩
   | [],h=>exact absurd h Bool.false_ne_true
   | _::_::_,h=>exact absurd h Bool.false_ne_true⟩
theorem Z27(c:Cfg):∀it:It,Y06 c it
 | .seq e,k,Z,w0,X,tg,ex,G,h,_=>by
  refine PI.imp (Zx9 (Zp c e k Z w0 X ex G h).1) fun σ H R zz115=>?_
  obtain⟨w,σD,M,QD,S,g,aq⟩:=zz115
  refine Yi S g fun v w1 d M1 x1 r1 rd1 q1=>?_
  have hK:X.K=w1.K:=by rw[x1.K,S.K,G.eK]
  unfold itD at q1
  split at q1
  ·obtain⟨hn,rfl⟩:=Zv.mp rd1
   obtain⟨xs,z1,z2⟩:=q1
   obtain⟨_,vs,y1,y2,_⟩:=r1.listL z1
   rw[←hK] at y1
   exact .inl ⟨_,rfl,⟨vs,y1⟩,aq _ w1 _ _ M1 x1 r1 (Zg3 hK hn) z2⟩
  ·obtain⟨a,vs,rfl,y1,y2⟩:=Xn.mp rd1
   exact .inr ⟨a,rfl,⟨vs,.of y1⟩,aq _ w1 _ _ M1 x1 r1 (Z09 hK (.of y1) y2) q1⟩
  ·obtain⟨a,vs,rfl,y1,y2⟩:=Pu.mp rd1
   exact .inr ⟨a,rfl,⟨vs,by rw[hK];exact y1⟩,aq _ w1 _ _ M1 x1 r1 (Z09 hK y1 y2) q1⟩
  ·exact q1.elim
 | .rng1 a,k,Z,w0,X,tg,ex,G,h,_=>by
  cases ex with
  | Call fn ls kws pos=>
   cases fn with
   | Name x np=>
    match ls,kws,h with
    | [l],[],h=>
     change (_&&_)=true at h
     simp only[Bool.and_eq_true,beq_iff_eq,List.contains_iff_mem] at h
     obtain⟨⟨⟨⟨rfl,h1⟩,h2⟩,h3⟩,h4⟩:=h
     obtain⟨g1,g2,g3⟩:=G.gl h1
     refine PI.imp (Z96 g1 (G.blt _ h2) (Su (Zp c a k Z w0 X l G h4).1 Fl (Zt h3)) (Zt h3)) fun σ H R zz116=>?_
     obtain⟨w,σD,M,QD,S,g,aq⟩:=zz116
     refine Yi S g fun v w1 d M1 x1 r1 rd1 q1=>?_
     split at q1
     ·cases Zf.mp rd1
      exact⟨_,rfl,q1.1,q1.2.1,aq _ w1 _ _ M1 x1 r1 Z37 q1.2.2⟩
     ·exact q1.elim
    | [],_,h=>exact absurd h Bool.false_ne_true
    | [_],_::_,h=>exact absurd h Bool.false_ne_true
    | _::_::_,_,h=>exact absurd h Bool.false_ne_true
   | _=>exact absurd h Bool.false_ne_true
  | _=>exact absurd h Bool.false_ne_true
 | .rng2 a b,k,Z,w0,X,tg,ex,G,h,_=>by
  cases ex with
  | Call fn ls kws pos=>
   cases fn with
   | Name x np=>
    match ls,kws,h with
    | [l,r],[],h=>
     change (_&&_)=true at h
     simp only[Bool.and_eq_true,beq_iff_eq,List.contains_iff_mem] at h
     obtain⟨⟨⟨⟨⟨⟨rfl,h1⟩,h2⟩,h3⟩,h5⟩,h4⟩,h6⟩:=h
     obtain⟨g1,g2,g3⟩:=G.gl h1
     refine PI.imp (Z53 g1 (G.blt _ h2) (Su (Zp c a k Z w0 X l G h4).1 (Su (Zp c b k Z w0 X r G h6).1 Fl (Zt h5)) (Zt h3)) (by rw[Zt h3,Zt h5];rfl) (Zt h5)) fun σ H R zz117=>?_
     obtain⟨w,σD,M,QD,S,g,aq⟩:=zz117
     refine Yi S g fun v w1 d M1 x1 r1 rd1 q1=>?_
     refine Yi (S.next x1 r1) q1 fun v2 w2 d2 M2 x2 r2 rd2 q2=>?_
     split at q2
     ·cases Zf.mp rd1
      cases Zf.mp rd2
      exact⟨_,_,rfl,q2.1,aq _ w2 _ _ M2 (x1.trans x2) r2 Z37 q2.2⟩
     ·exact q2.elim
    | [],_,h=>exact absurd h Bool.false_ne_true
    | [_],_,h=>exact absurd h Bool.false_ne_true
    | [_,_],_::_,h=>exact absurd h Bool.false_ne_true
    | _::_::_::_,_,h=>exact absurd h Bool.false_ne_true
   | _=>exact absurd h Bool.false_ne_true
  | _=>exact absurd h Bool.false_ne_true
 | .zip es,k,Z,w0,X,tg,ex,G,h,ht=>by
  cases tg with
  | Tuple elts ctx tp=>
   obtain⟨l,ls,p,q,rfl,h2⟩:=Z82 h
   simp only[Bool.and_eq_true,List.contains_iff_mem] at h2
   obtain⟨⟨h3,h4⟩,h5⟩:=h2
   obtain⟨g1,g2,g3⟩:=G.gl h3
   obtain⟨s1,s2⟩:=Y51 h5
   refine PI.imp (Zy5 g1 (G.blt _ h4) (Xm c es k Z w0 X (l::ls) G h5).1 s1 s2) fun σ H R zz118=>?_
   obtain⟨w,σD,M,QD,S,g,aq⟩:=zz118
   refine⟨w,σD,M,_,S,g,fun vs w1 ds M1 x1 r1 rd1 q1=>?_⟩
   obtain⟨da,db,rfl,q2⟩:=R7 q1
   obtain⟨n,rfl,q3⟩:=Xg q2
   obtain⟨m,rfl,ys,zs,z1,z2,z3⟩:=Xg q3
   obtain⟨v1,v2,rfl,a1,a2⟩:=rds2 rd1
   obtain⟨hn,rfl⟩:=Zv.mp a1
   obtain⟨hm,rfl⟩:=Zv.mp a2
   have hK:X.K=w1.K:=by rw[x1.K,S.K,G.eK]
   obtain⟨_,us,y1,_,_⟩:=r1.listL z1
   obtain⟨_,vs,y2,_,_⟩:=r1.listL z2
   rw[←hK] at y1 y2
   exact⟨_,_,rfl,⟨us,y1⟩,⟨vs,y2⟩,aq _ w1 _ _ M1 x1 r1 (Zm0 hK hn hm) z3⟩
  | _=>exact absurd ht Bool.false_ne_true
 | .enm a,k,Z,w0,X,tg,ex,G,h,ht=>by
  cases tg with
  | Tuple elts ctx tp=>
   cases ex with
   | Call fn ls kws pos=>
    cases fn with
    | Name x np=>
     match ls,kws,h with
     | [l],[],h=>
      change (_&&_)=true at h
      simp only[Bool.and_eq_true,beq_iff_eq,List.contains_iff_mem] at h
      obtain⟨⟨⟨⟨rfl,h1⟩,h2⟩,h3⟩,h4⟩:=h
      obtain⟨g1,g2,g3⟩:=G.gl h1
      refine PI.imp (Zt2 g1 (G.blt _ h2) (Su (Zp c a k Z w0 X l G h4).1 Fl (Zt h3)) (Zt h3)) fun σ H R zz119=>?_
      obtain⟨w,σD,M,QD,S,g,aq⟩:=zz119
      refine Yi S g fun v w1 d M1 x1 r1 rd1 q1=>?_
      have hK:X.K=w1.K:=by rw[x1.K,S.K,G.eK]
      split at q1
      ·obtain⟨hn,rfl⟩:=Zv.mp rd1
       obtain⟨xs,z1,z2⟩:=q1
       obtain⟨_,vs,y1,y2,_⟩:=r1.listL z1
       rw[←hK] at y1
       exact⟨_,rfl,⟨vs,y1⟩,aq _ w1 _ _ M1 x1 r1 (Ze4 hK hn) z2⟩
      ·exact q1.elim
     | [],_,h=>exact absurd h Bool.false_ne_true
     | [_],_::_,h=>exact absurd h Bool.false_ne_true
     | _::_::_,_,h=>exact absurd h Bool.false_ne_true
    | _=>exact absurd h Bool.false_ne_true
   | _=>exact absurd h Bool.false_ne_true
  | _=>exact absurd ht Bool.false_ne_true
end
noncomputable def Fb:Expr→Bool
 | .ListComp .. | .SetComp .. | .DictComp ..=>false
 | _=>true
noncomputable def Z41:Expr→Bool
 | .Tuple ..=>false
 | _=>true
noncomputable def Zi5:Expr→Bool
 | .Name ..=>true
 | _=>false
noncomputable def Zm9(k:Ck)(t x:Expr):Bool:=match t,x with
 | .Name n pos,.ListComp _ _ scope p=>k.sc.kind== .function&&k.loc n&&pos.line==p.line&&!(scope.names.any fun(m,j)=>m==n&&(j== .local || j== .cell))
 | _,_=>false
noncomputable def Zy8(k:Ck)(t x:Expr):Bool:=match t,x with
 | .Name n _,.ListComp ..=>k.sc.names.lookup n==some .cell
 | _,_=>false
noncomputable def chkB(k:Ck)(h:Tk)(f:Nat)(es:Es):Stmt→Bool
 | .Expr (.Call (.Name x p) ls [] q) _=>match h with
  | .drop=>chkE k (.call f es) (.Call (.Name x p) ls [] q)
  | _=>false
 | .Return (some (.Call (.Name x p) ls [] q)) _=>match h with
  | .ret=>chkE k (.call f es) (.Call (.Name x p) ls [] q)
  | _=>false
 | .Assign [.Name n _] (.Call (.Name x p) ls [] q) _=>match h with
  | .set i=>k.N[i]?==some n&&k.loc n&&chkE k (.call f es) (.Call (.Name x p) ls [] q)
  | _=>false
 | _=>false
mutual
noncomputable def chkS(k:Ck):S→Stmt→Bool
 | .ret e,.Return (some x) _=>chkE k e x
 | .expr e,.Expr x _=>Fb x&&chkE k e x
 | .set tg e,.Assign [t] x _=>Pf k tg t&&chkE k e x&&((Fb x&&(Zi5 t || Z41 x)) || (Zm9 k t x&&decide (tg.length=1)) || Zy8 k t x)
 | .put o i v,.Assign [.Subscript l r _] x _=>Gk r&&Fb x&&chkE k v x&&chkE k o l&&chkE k i r
 | .ite t a b,.If x ls rs _=>chkE k t x&&noIf t&&Yh k a ls&&Yh k b rs
 | .for_ tg it b,.For t x ls [] _=>k.calm&&k.loops&&Cp x&&Pf k tg t&&Zg8 k it x&&Yh k b ls&&itTg it t
 | .forK tg e b,.For t x ls [] _=>k.calm&&k.loops&&Cp x&&Pf k tg t&&chkE k e x&&Yh k b ls
 | .while_ t b,.While x ls [] _=>k.loops&&chkE k t x&&noIf t&&Yh k b ls
 | .raise g es,.Raise (some (.Call (.Name x _) ls [] _)) none _=>k.calm&&k.raises.contains g&&k.GN[g]?==some x&&k.glob x&&decide (ls.length≤1)&&Xp k es ls
 | .tryN h f es g s,.Try [bs] [.ExceptHandler (some (.Name x _)) none (s0::ss) _] [] [] _=>k.calm&&k.tries&&k.GN[g]?==some x&&k.glob x&&chkB {k with tries:=false,raises:=[]} h f es bs&&
   Yh {k with calm:=false,loops:=true,tries:=false,raises:=[]} s (s0::ss)
 | _,_=>false
noncomputable def Yh(k:Ck):Ss→List Stmt→Bool
 | .nil,[]=>true
 | .cons s r,x::xs=>chkS k s x&&Yh k r xs
 | _,_=>false
end
section
variable{c:Cfg}{k:Ck}{Z:DX}{w0:Vw}{X:Cx}
theorem Jv{x:Expr}{t:Option Expr}{line:Nat}{env:Env}(h:Fb x=true):swapsWith x t line env=pure false:=by
 cases x<;>first | rfl | cases h
theorem Qt{f:DS}{σ:L2.St}{w:Vw}{σD:DEnv}{M:Z0}{H:Hp}{R:Ends}{RR:DEnds}(S:StOk w0 w σD M σ H)(h:f RR σD M)
  (h1:∀σ' w' σD' M',Ext w w'→RS w' M'→REnv w' σD' σ'→RR.nx σD' M'→R.nx σ' w'.H) (h2:Aft w RR.rt R.rt)
  (h3:∀σ' w' σD' M',Ext w w'→RS w' M'→REnv w' σD' σ'→RR.bk σD' M'→R.bk σ' w'.H)
  (h4:∀σ' w' σD' M',Ext w w'→RS w' M'→REnv w' σD' σ'→RR.ct σD' M'→R.ct σ' w'.H):tFS w0 f R σ H:=⟨w,σD,M,RR,S,h,h1,h2,h3,h4⟩
noncomputable def Zo3(X:Cx)(R:Ends):Ends:={nx:=fun σ H=>∃a o kvs,H a=some (.frz o (.dK kvs))∧(∀o u,X.H₀ a≠some (.frz o u))∧R.nx σ (upd H a (.dK kvs)),rt:=fun v H=>∃a o kvs,H a=some (.frz o (.dK kvs))∧(∀o u,X.H₀ a≠some (.frz o u))∧R.rt v (upd H a (.dK kvs))}
theorem Zn6{st:Stmt}{t:TS}(h:PS X st t):PS X st (fun R σ H=>t (Zo3 X R) σ H):=by
 intro pins s σ H D I q
 refine thn (h pins s σ H (Zo3 X D) I q) fun f s' hp=>?_
 cases f with
 | next=>
  obtain⟨σ',H',I',a,o,kvs,e,nf,q⟩:=hp
  exact⟨σ',_,Zi8 I' e nf,q⟩
 | brk=>obtain⟨σ',H',I',q⟩:=hp;exact q.elim
 | cont=>obtain⟨σ',H',I',q⟩:=hp;exact q.elim
 | ret u=>
  obtain⟨v,σ',H',I',r,a,o,kvs,e,nf,q⟩:=hp
  exact⟨v,σ',_,Zi8 I' e nf,r,q⟩
theorem REnv.ext0{w w':Vw}{σD:DEnv}{σ:L2.St}(h:REnv w σD σ)(x:Ext0 w w'):REnv w' σD σ:=
 ⟨h.1,fun i d e=>by obtain⟨v,q,r⟩:=h.2 i d e;exact⟨v,q,r.ext0 x⟩⟩
theorem Jd{w1 w':Vw}{M':Z0}{n:Nat}{o:Obj}{vs:List (Key×V)}{kvs:List (Key×D)}(hn:n<w1.n)(y1:w1.H (w1.μ n)=some (.dK vs))(x:Ext (w1.alloc (w1.μ n) (.frz o (.dK vs))) w')(r:RS w' M')(t:M'[n]?=some (.fdc kvs)):
  w'.H (w1.μ n)=some (.frz o (.dK vs))∧Ext w1 (w'.alloc (w1.μ n) (.dK vs))∧Ext0 w' (w'.alloc (w1.μ n) (.dK vs))∧RS (w'.alloc (w1.μ n) (.dK vs)) (M'.set n (.dct kvs)):=by
 have q:=x.imm (w1.μ n) _ Zz rfl
 have eμ:w'.μ n=w1.μ n:=x.μ n hn
 obtain⟨o',us,q1,q2⟩:=r.cell n _ t
 rw[eμ,q] at q1
 cases q1
 refine⟨q,Zc9 y1 rfl x,Ol q,?_⟩
 have:=r.thaw t (by rw[eμ];exact q) q2
 rw[eμ] at this
 exact this
theorem Z00{w1:Vw}{J:L2.It}{own:Own}{xs:List D}{tg:List Nat}{body:DS}{M1:Z0}{H1:Hp}{σD:DEnv}{σ:L2.St}{RR:DEnds}{R:Ends}(S:StOk w0 w1 σD M1 σ H1)(jk:JOk w1 J own xs)
  (h:forD own xs tg body xs RR σD M1)
  (h1:∀σ' w' σD' M',Ext w1 w'→RS w' M'→REnv w' σD' σ'→RR.nx σD' M'→R.nx σ' w'.H) (h2:Aft w1 RR.rt R.rt):
  ∃W:Nat→Nat→L2.St→Hp→Prop,(∃m,W 0 m σ H1)∧∀i m σ H,W i m σ H→
   (J.stop i H∧R.nx σ H)∨(J.go i H∧∃N:L2.St→Hp→Prop,(∀σ' H',N σ' H'→∃m',m'<m∧W (i+1) m' σ' H')∧∀x H',J.yld i H x H'→gF w0 tg x σ H' fun σ2 H2=>tFS w0 body {R with nx:=N,ct:=N,bk:=R.nx} σ2 H2):=by
 refine⟨fun i m σ H=>∃w σE M,StOk w0 w σE M σ H∧Ext w1 w∧i≤xs.length∧m=xs.length - i∧forD own xs tg body (xs.drop i) RR σE M,⟨xs.length,w1,σD,M1,S,Ext.refl _,Nat.zero_le _,rfl,h⟩,?_⟩
 rintro i m σc Hc ⟨w,σE,M,S1,x1,hi,rfl,hc⟩
 have stp:∀st:Oc own xs M,_:=fun st=>jk w M x1 S1.rs st i
 rw[S1.heap] at stp
 by_cases hil:i<xs.length
 ·rw[List.drop_eq_getElem_cons hil] at hc
  obtain⟨st,hc⟩:=hc
  obtain⟨j1,j2⟩:=(stp st).1 xs[i] (List.getElem?_eq_getElem hil)
  refine .inr ⟨j1,fun σ' H'=>∃w σE M,StOk w0 w σE M σ' H'∧Ext w1 w∧i+1≤xs.length∧forD own xs tg body (xs.drop (i+1)) RR σE M,?_,fun x H' hy=>?_⟩
  ·rintro σ' H' ⟨w2,σ2,M2,S2,x2,l2,f2⟩
   exact⟨xs.length - (i+1),by omega,w2,σ2,M2,S2,x2,l2,rfl,f2⟩
  ·obtain⟨w3,rfl,x3,R3,rd3⟩:=j2 x H' hy
   refine⟨w3,σE,M,xs[i],_,⟨rfl,S1.ext.trans x3,R3,S1.env.ext x3⟩,rd3,hc,fun σ2 σE2 env2 q2=>?_⟩
   have nxt:∀σ' w' σD' M',Ext w3 w'→RS w' M'→REnv w' σD' σ'→forD own xs tg body (xs.drop (i+1)) RR σD' M'→
     ∃w σE M,StOk w0 w σE M σ' w'.H∧Ext w1 w∧i+1≤xs.length∧forD own xs tg body (xs.drop (i+1)) RR σE M:=
    fun σ' w' σD' M' x' r' e' q'=>⟨w',σD',M',⟨rfl,(S1.ext.trans x3).trans x',r',e'⟩,(x1.trans x3).trans x',hil,q'⟩
   exact Qt ⟨rfl,S1.ext.trans x3,R3,env2⟩ q2 nxt (fun v w' d M' x' r' rd' q'=>h2 v w' d M' ((x1.trans x3).trans x') r' rd' q')
    (fun σ' w' σD' M' x' r' e' q'=>h1 σ' w' σD' M' ((x1.trans x3).trans x') r' e' q') nxt
 ·rw[List.drop_eq_nil_of_le (by omega)] at hc
  obtain⟨st,hq⟩:=hc
  refine .inl ⟨(stp st).2 (by omega),?_⟩
  have:=h1 σc w σE M x1 S1.rs S1.env hq
  rw[S1.heap] at this
  exact this
theorem Zy4{o i value:Expr}{td ty tv:TE}{pos pos':Pos}(hu:X.A.units+1<cLine)(ho:PE X o td)(hi:PE X i ty)(hv:PE X value tv)(hs:swapsWith value (some (.Subscript o i pos')) pos.line X.env=pure false):
  PS X (.Assign [.Subscript o i pos'] value pos) (fun R σ H=>tv σ H fun v H1=>td σ H1 fun x H2=>ty σ H2 fun y H3=>Zx0 x y v H3 (fun H4=>R.nx σ H4)∨∃a H4,x= .ref a∧DPut H3 a y v H4∧R.nx σ H4):=by
 intro pins s σ H D I h
 refine wpAny_Assign_Subscript (thn (hv pins s σ H _ I h) fun r s1 ⟨v,H1,I1,rv,q1⟩=>thn (ho pins s1 σ H1 _ I1 q1) fun u s2 ⟨x,H2,I2,rx,q2⟩=>thn (hi pins s2 σ H2 _ I2 q2) fun iv s3 zz122=>?_) hs
 obtain⟨y,H3,I3,ry,q3⟩:=zz122
 rcases q3 with q3 | ⟨a,H4,ex,g,q3⟩
 ·exact thn (Zd4 pins s3 σ H3 x y v u iv r (fun H4=>D.nx σ H4) I3 rx ry rv q3) fun _ s4 zz123=>by obtain⟨H4,I4,q4⟩:=zz123;exact⟨σ,H4,I4,q4⟩
 ·subst ex
  obtain rfl:u=Value.ref a:=rx
  exact Z70 hu I3 g ry rv fun s4 I4=>⟨σ,H4,I4,q3⟩
theorem Z68{E:XK}{x:Str}{np cpos pos:Pos}{C f:Addr}{kk:Nat}{fd:FuncData}{ps:List Str}{sp:Sp}{dvs:List V}{ds:List Value}{e:Expr}{es:List Expr}{t:TA}(L:Leaves X E)(hc:X.calm=true)(Mk:ExcMk X.K C f)(F:FnOk X.prog X.w X.K X.mg X.base CX0 kk f fd ps sp)(hr:Room (kk+1) X.A)(hb:Zr X.K fd ps ds)(hd:Vals dvs ds)(hg:Gl X x)(hm:X.mg x=some (.ref C))
  (ha:PA X (e::es) t) (hdb:(x==("__debug__":Str))=false) (he:starEach (e::es) X.env=(false,eval e X.env)::starEach es X.env) (hpl:(backTo cpos (starEach es X.env)).any (·.1)=false):
  PS X (.Raise (some (.Call (.Name x np) (e::es) [] cpos)) none pos) (Zj5 C sp dvs E t):=by
 intro pins s σ H D I h
 rw[arm_exec_Raise]
 simp only[evalOpt,Option.map]
 refine wpAny_bind (wpAny_standAt (Qk (C:=C) (I.ok.hd hc) ?_))
 refine wpAny_bind (wpAny_mono (Q:=fun v s1=>∃(e:Addr) (nm q:Str) (N:Addr) (bs bm:List Value) (hdct:Bool) (sn:List Str) (sub:List Value) (ab:Bool) (col:Option Bool) (dd:Option Addr) (k0 k1 k2 k3 k5:Option Value) (dx:Option Addr),
   v= .ref e∧ExcCls s1.heap C nm q N bs bm hdct sn sub ab col dd k0 k1 k2 k3 k5 "ValueError" "ValueError.__new__"∧ExAt s1.heap e (.ref C) dx .none∧X.xe (.ref e) s1) ?_ (fun v s1 z=>wpAny_bind (wpAny_standAt (wpAny_pure z))) fun _ _ z=>z)
 refine wpAny_Call_Name_kw (Wh I hg hm ?_ hdb)
 refine PySem.W.callWith_K (h₀:=X.base) I.ok.mod.kin Mk.kp (thn (ha cpos pins s σ H _ I h) fun us s1 ⟨vs,H1,I1,r,q⟩=>⟨I1.kIn,?_⟩) he hpl
 exact E5 L Mk F hr hb hd I1 r q.1 q.2
end
def Bz(c:Cfg)(s:S):Prop:=∀(k:Ck) (Z:DX) (w0:Vw) (X:Cx) (st:Stmt),Good c k Z w0 X→chkS k s st=true→PS X st (tFS w0 (ts c Z s))
def Z49(c:Cfg)(s:Ss):Prop:=∀(k:Ck) (Z:DX) (w0:Vw) (X:Cx) (st:List Stmt),Good c k Z w0 X→Yh k s st=true→PSs X st (tFS w0 (tss c Z s))
section
variable{c:Cfg}{k:Ck}{Z:DX}{w0:Vw}{X:Cx}
theorem Good.noxG(G:Good c k Z w0 X):Good c {k with tries:=false,raises:=[]} noX w0 X.nox where
 hK:=G.hK
 wK:=G.wK
 N:=G.N
 nd:=G.nd
 sc:=G.sc
 calm:=G.calm
 units:=G.units
 kwd:=fun h sp h2=>by
  obtain⟨kk,f,fd,ps,h⟩:=G.kwd h sp h2
  exact⟨kk,f,fd,ps,h⟩
 fns:=fun h f x sp h1 h2=>by
  obtain⟨kk,f,fd,ps,ds,dvs,dD,sp0,h⟩:=G.fns h f x sp h1 h2
  exact⟨kk,f,fd,ps,ds,dvs,dD,sp0,h⟩
 flen:=G.flen
 glb:=G.glb
 blt:=G.blt
 exc:=⟨E0,fun _ _ _ _ _ _ _ h=>by
  obtain⟨_,_,_,_,_,_,_,_,_,_,_,_,_,_,_,h⟩:=h
  exact h.elim,fun cls dd H' h=>by
  obtain⟨_,_,_,_,_,_,_,_,_,_,_,_,_,h⟩:=h
  exact h.elim⟩
 stk:=fun h=>by cases h
 rai:=fun _ h=>absurd h Bool.false_ne_true
 po:=fun _=>PassesOwn.never
 fnc:=G.fnc
 fno:=G.fno
theorem Good.heldG(G:Good c k Z w0 X)(e:Addr):Good c {k with calm:=false,loops:=true,tries:=false,raises:=[]} noX w0 (Held X e) where
 hK:=G.hK
 wK:=G.wK
 N:=G.N
 nd:=G.nd
 sc:=G.sc
 calm:=fun h=>by cases h
 units:=G.units
 kwd:=fun h=>by cases h
 fns:=fun h=>by cases h
 flen:=G.flen
 glb:=G.glb
 blt:=G.blt
 exc:=⟨E0,fun _ _ _ _ _ _ _ h=>by
  obtain⟨_,_,_,_,_,_,_,_,_,_,_,_,_,_,_,h⟩:=h
  exact h.elim,fun cls dd H' h=>by
  obtain⟨_,_,_,_,_,_,_,_,_,_,_,_,_,h⟩:=h
  exact h.elim⟩
 stk:=fun h=>by cases h
 rai:=fun _ h=>absurd h Bool.false_ne_true
 po:=fun _=>PassesOwn.never
 fnc:=G.fnc
 fno:=G.fno
def tFX(w0:Vw)(g:DX→DE):TEX:=fun σ H Q E=>∃w σD M QD Z,StOk w0 w σD M σ H∧g Z σD M QD∧Aft w QD Q∧∀cls dd H',xkOf w Z cls dd H'→E cls dd H'
theorem PEX.imp{e:Expr}{t t':TEX}(h:PEX X e t)(q:∀σ H Q E,t' σ H Q E→t σ H Q E):PEX X e t':=fun pins s σ H Q E I z=>h pins s σ H Q E I (q σ H Q E z)
theorem Z35{kk:Nat}{f:Addr}{fd:FuncData}{ps:List Str}{sp:Sp}{dvs:List V}{ds:List Value}{x:Str}{p pos:Pos}(F:FnOk X.prog X.w X.K X.mg X.base (CX1 X.prog X.w) kk f fd ps sp)(hr:Room kk X.A)(hg:Gl X x)(hm:X.mg x=some (.ref f))(hk:PySem.W.keepIn X.K (.ref f)=true)(hb:Zr X.K fd ps ds)(hd:Vals dvs ds)
  (hdb:(x==("__debug__":Str))=false):PEX X (.Call (.Name x p) [] [] pos) (Zj4 sp dvs tNil):=by
 intro pins s σ H Q E I h
 refine wpAny_Call_Name_kw (Wh I hg hm ?_ hdb)
 refine PySem.W.callWith_K0 I.kIn hk ?_
 have hl:([]++ds).length=ps.length:=by
  have r2:Vals ([]++dvs) ([]++ds):=hd
  rw[←r2.length];exact F.len _ _ _ _ h
 refine wpAny_call (codeAny_mono (F.run X.A X.stack s H ⟨[],[]⟩ ([]++ds) ([]++dvs) Q E hr I.env0 (hb s [] I.kIn hl) hd h) fun rr s' hq=>?_)
 cases rr with
 | error z=>exact Zz5 I hq
 | ok fl=>
  cases fl with
  | ret u=>exact I.after hq
  | next=>exact False.elim hq
  | brk=>exact False.elim hq
  | cont=>exact False.elim hq
theorem Vm{f:Nat}{es:Es}{x:Str}{np pos:Pos}{ls:List Expr}(G:Good c k Z w0 X)(h:chkE {k with tries:=false,raises:=[]} (.call f es) (.Call (.Name x np) ls [] pos)=true):PEX X (.Call (.Name x np) ls [] pos) (tFX w0 fun Z=>fun σD M QD=>tes c noX es σD M fun ds M1=>match c.Γ[f]? with
  | some sp=>sp ds M1 QD Z
  | none=>False):=by
 change (_&&_)=true at h
 simp only[Bool.and_eq_true,beq_iff_eq] at h
 obtain⟨⟨⟨hc,hf⟩,hg⟩,hs⟩:=h
 obtain⟨g1,g2,g3⟩:=G.gl hg
 cases hsp:c.Γ[f]? with
 | none=>
  have h1:=(List.getElem?_eq_some_iff.mp hf).1
  have h2:=List.getElem?_eq_none_iff.mp hsp
  rw[G.flen] at h1
  omega
 | some sp=>
  obtain⟨kk,fa,fd,pr,ds,dvs,dD,sp0,F,hr,hm,hk,hb,hd,hD,hsp0⟩:=G.fns hc f x sp hf hsp
  have key:∀σ H Q E,tFX w0 (fun Z=>fun σD M QD=>tes c noX es σD M fun ds M1=>sp ds M1 QD Z) σ H Q E→tFA w0 (tes c noX es) σ H fun vs H1=>spF X.K sp0 (vs++dvs) H1 Q E:=by
   rintro σ H Q E ⟨w,σD,M,QD,Z',S,g,a,xk⟩
   refine⟨w,σD,M,_,S,g,fun vs w' ds' M' x' r' rd' q'=>?_⟩
   have hKw:w'.K=X.K:=by rw[x'.K,S.K,G.eK]
   exact⟨w',ds'++dD,M',QD,Z',hKw,rfl,r',rd'.append (hD w' hKw),hsp0 _ _ _ _ q',a.ext x',fun cls dd H' hx=>xk cls dd H' (R9 x' hx)⟩
  cases ls with
  | nil=>
   refine PEX.imp (Z35 F hr g1 hm hk hb hd g2) fun σ H Q E h=>?_
   obtain⟨w,σD,M,QD,S,g,a⟩:=key σ H Q E h
   cases es with
   | nil=>
    have:=a [] w [] M (Ext.refl w) S.rs (RDs.nil w) g
    rw[S.heap] at this
    exact this
   | cons e r=>exact absurd hs Bool.false_ne_true
  | cons l ls=>
   cases es with
   | nil=>exact absurd hs Bool.false_ne_true
   | cons e r=>
    have ih:=(Xm c (.cons e r) _ _ w0 X.nox (l::ls) G.noxG hs).1
    change (_&&_)=true at hs
    simp only[Bool.and_eq_true] at hs
    exact PEX.imp (Zg9 F hr g1 hm hk hb hd ih g2 (Zt hs.1.2) (V2 (Xl r ls hs.2))) key
def Y55(K:PySem.W.Frag)(D:Addr)(tb:TSX)(ts:TS):TS:=fun R σ H=>tb R (fun cls dd H1=>∃C,cls= .ref C∧Catch K C D true∧ts R σ H1) σ H
theorem Zm6{X:Cx}{body suite:List Stmt}{b₀:Stmt}{x:Str}{np hpos pos:Pos}{D:Addr}{tb:TSX}{ts:TS}(hb:PSX X body tb)(hs:∀e,PSs (Held X e) (b₀::suite) ts)(hg:Gl X x)(hm:X.mg x=some (.ref D))(L:X.stack=X.env::X.outer)(hf:X.env.frame=some X.env.locals)
  (hdb:(x==("__debug__":Str))=false:=by decide):PS X (.Try body [.ExceptHandler (some (.Name x np)) none (b₀::suite) hpos] [] [] pos) (Y55 X.K D tb ts):=by
 intro pins s σ H R I h
 refine wpAny_Try_except (wpAny_mono (hb pins s σ H R _ I h) (fun f s1 q=>?_) fun y s1 q=>?_)
 ·cases f with
  | next=>exact wpAny_execs_nil q
  | ret v=>exact q
  | brk=>exact q
  | cont=>exact q
 obtain⟨e,T,cls,dd,H1,rfl,I1,ft,hTe,he,x1,t1,C,rfl,S,q⟩:=q
 refine Nk (outer:=X.outer) (base:=X.base) (L:=X.env.locals) (by rw[←L];exact I1.ok.frames) (by rw[←L];exact I1.stack) hf x1 t1 hTe fun h2 T1 z1 z2 z3 z4 z5=>?_
 have I2:Inv X pins σ H1 {s1 with heap:=h2}:=Zb5 I1 ft he z3 (by rw[L];exact z5)
 have f2:FpOk X pins H1 T1:=I1.fpOk z1 (I1.hok.fresh z1)
 refine Tb (s:={s1 with heap:=h2}) z3 z4 z2 fun h3 x3 t3 k3 _=>?_
 have I3:Inv X pins σ H1 {s1 with heap:=h3}:=Gp (s:={s1 with heap:=h2}) I2 f2 k3
 have J3:=Zn3 I3 e
 refine wpAny_handleBy_cons (codeAny_handlers_test ?_) (by intro z;cases z)
 refine Wh (X:=Held X e) J3 hg hm ?_ hdb
 obtain⟨oe,vs,y1,⟨y2,y3⟩,y4,y5⟩:=id x3
 refine Gc (s:={s1 with heap:=h3}) J3.kIn S y1 y2 ?_
 refine PySem.codeAny_handlers_suite ?_
 refine Tb (s:={s1 with heap:=h3}) x3 t3 z2 fun h4 x4 t4 k4 _=>?_
 have J4:Inv (Held X e) pins σ H1 {s1 with heap:=h4}:=Gp (s:={s1 with heap:=h3}) J3 f2 k4
 refine wpAny_mono (hs e pins _ _ H1 _ J4 q) (fun f s6 q6=>?_) fun _ _ z=>z.elim
 cases f with
 | next=>
  obtain⟨σ6,H6,J6,q6⟩:=q6
  exact⟨_,_,Sd I.ok J6,q6⟩
 | brk=>
  obtain⟨σ6,H6,J6,q6⟩:=q6
  exact⟨_,_,Sd I.ok J6,q6⟩
 | cont=>
  obtain⟨σ6,H6,J6,q6⟩:=q6
  exact⟨_,_,Sd I.ok J6,q6⟩
 | ret u=>
  obtain⟨v,σ6,H6,J6,rv,q6⟩:=q6
  exact⟨v,_,_,Sd I.ok J6,rv,q6⟩
theorem B0{h:Tk}{f:Nat}{es:Es}{g:Nat}{sx:Ss}{bs s0:Stmt}{ss:List Stmt}{x:Str}{np hp pos:Pos}(G:Good c k Z w0 X)(hc:k.calm=true)(ht:k.tries=true)(hg:k.GN[g]?=some x)(hgl:k.glob x=true)
  (hb:chkB {k with tries:=false,raises:=[]} h f es bs=true) (hs:Yh {k with calm:=false,loops:=true,tries:=false,raises:=[]} sx (s0::ss)=true) (ih:Z49 c sx):
  PS X (.Try [bs] [.ExceptHandler (some (.Name x np)) none (s0::ss) hp] [] [] pos) (tFS w0 (ts c Z (.tryN h f es g sx))):=by
 obtain⟨g1,g2,g3⟩:=G.gl hgl
 obtain⟨st1,st2⟩:=G.stk ht
 have never:(∀D,c.G[g]?≠some (.cls D))→PS X (.Try [bs] [.ExceptHandler (some (.Name x np)) none (s0::ss) hp] [] [] pos) (tFS w0 (ts c Z (.tryN h f es g sx))):=fun no=>
  PS.imp Eb fun R σ H ⟨w,σD,M,RR,S,q,_⟩=>by
   unfold ts at q
   split at q
   ·rename_i D e;exact(no D e).elim
   ·exact q
 by_cases hD:∃D,c.G[g]?=some (.cls D)
 ·obtain⟨Dc,hD⟩:=hD
  obtain⟨v,u,q1,q2,q3⟩:=G.glb g x _ hg hD
  have hv:v= .ref Dc:=Rt.mp (q3 ⟨X.K,fun _=>none,fun _=>0,0⟩ rfl)
  subst hv
  cases (show u=Value.ref Dc from q2)
  have suite:∀e,PSs (Held X e) (s0::ss) (tFS w0 (tss c noX sx)):=fun e=>ih _ _ w0 (Held X e) (s0::ss) (G.heldG e) hs
  have key:∀(R:Ends) (σ:L2.St) (H:Hp) (Q:VK),tFS w0 (ts c Z (.tryN h f es g sx)) R σ H→(∀(RR:DEnds) (σD:DEnv) (w:Vw),REnv w σD σ→(∀σ' w' σD' M',Ext w w'→RS w' M'→REnv w' σD' σ'→RR.nx σD' M'→R.nx σ' w'.H)→Aft w RR.rt R.rt→Aft w (tkD h RR σD) Q)→
    tFX w0 (fun Z=>fun σD M QD=>tes c noX es σD M fun ds M1=>match c.Γ[f]? with
     | some sp=>sp ds M1 QD Z
     | none=>False) σ H Q (fun cls dd H1=>∃C,cls= .ref C∧Catch X.K C Dc true∧tFS w0 (tss c noX sx) R σ H1):=by
   rintro R σ H Q ⟨w,σD,M,RR,S,q,h1,h2,h3,h4⟩ hQ
   unfold ts at q
   rw[hD] at q
   refine⟨w,σD,M,tkD h RR σD,_,S,q,hQ RR σD w S.env h1 h2,?_⟩
   rintro cls dd H' ⟨C,dx,r,w',row,M',rfl,rfl,rfl,x',r',z1,z2,z3,z4⟩
   refine⟨C,rfl,by rw[G.hK];exact z3,?_⟩
   refine Qt (RR:=RR) ⟨rfl,S.ext.trans x',r',S.env.ext x'⟩ z4 ?_ ?_ ?_ ?_
   ·exact fun σ' w2 σD' M2 x2 r2 e2 q2=>h1 _ w2 _ M2 (x'.trans x2) r2 e2 q2
   ·exact h2.ext x'
   ·exact fun σ' w2 σD' M2 x2 r2 e2 q2=>h3 _ w2 _ M2 (x'.trans x2) r2 e2 q2
   ·exact fun σ' w2 σD' M2 x2 r2 e2 q2=>h4 _ w2 _ M2 (x'.trans x2) r2 e2 q2
  have fin:∀{tb:TSX},PSX X [bs] tb→(∀R σ H,tFS w0 (ts c Z (.tryN h f es g sx)) R σ H→tb R (fun cls dd H1=>∃C,cls= .ref C∧Catch X.K C Dc true∧tFS w0 (tss c noX sx) R σ H1) σ H)→
    PS X (.Try [bs] [.ExceptHandler (some (.Name x np)) none (s0::ss) hp] [] [] pos) (tFS w0 (ts c Z (.tryN h f es g sx))):=fun{tb} hb' hk=>
   PS.imp (Zm6 hb' suite g1 q1 st1 st2 g2) hk
  unfold chkB at hb
  split at hb
  ·split at hb
   ·refine fin (Za4 (Vm G hb) rfl) fun R σ H q=>key R σ H _ q fun RR σD w env h1 h2=>fun v w' d M' x' r' rd' q'=>h1 σ w' σD M' x' r' (env.ext x') q'
   ·cases hb
  ·split at hb
   ·refine fin (Zs9 (Vm G hb)) fun R σ H q=>key R σ H _ q fun RR σD w env h1 h2=>h2
   ·cases hb
  ·split at hb
   ·rename_i j
    simp only[Bool.and_eq_true,beq_iff_eq] at hb
    obtain⟨⟨hb1,hb2⟩,hb3⟩:=hb
    have hj:=(congrArg (fun N:List Str=>N[j]?) G.N).trans hb1
    unfold Ck.loc at hb2
    have hjl:=eq_of_beq hb2
    dsimp only at hjl
    rw[←G.sc] at hjl
    refine fin (Zp6 G.nd hj (.inl hjl) (Vm G hb3) rfl (.inr hjl)) fun R σ H q=>key R σ H _ q fun RR σD w env h1 h2=>fun v w' d M' x' r' rd' q'=>h1 _ w' _ M' x' r' ((env.ext x').set j rd') q'
   ·cases hb
  ·cases hb
 ·exact never fun D e=>hD ⟨D,e⟩
end
section
variable{c:Cfg}{k:Ck}{Z:DX}{w0:Vw}{X:Cx}
theorem Ba{H:Hp}{e dx:Addr}{a b c' d':HO}(h:(upd H e a) dx=none):upd (upd (upd (upd H e a) dx b) e c') e d'=upd (upd H dx b) e d'∧dx≠e:=by
 have hne:dx≠e:=by
  rintro rfl
  rw[Zz] at h
  cases h
 refine⟨?_,hne⟩
 funext p
 unfold upd
 by_cases h1:p=e
 ·simp[h1]
 ·by_cases h2:p=dx
  ·simp[h2,hne]
  ·simp[h1,h2]
theorem G4{g:Nat}{es:Es}{x:Str}{np cpos pos:Pos}{ls:List Expr}(G:Good c k Z w0 X)(hc:k.calm=true)(hr:k.raises.contains g=true)(hg:k.GN[g]?=some x)(hgl:k.glob x=true)(hn:ls.length≤1)(hs:Xp k es ls=true)(ih:PA X ls (tFA w0 (tes c Z es))):
  PS X (.Raise (some (.Call (.Name x np) ls [] cpos)) none pos) (tFS w0 (ts c Z (.raise g es))):=by
 obtain⟨g1,g2,g3⟩:=G.gl hgl
 by_cases hD:∃C,c.G[g]?=some (.cls C)
 ·obtain⟨C,hD⟩:=hD
  obtain⟨v,u,q1,q2,q3⟩:=G.glb g x _ hg hD
  have hv:v= .ref C:=Rt.mp (q3 ⟨X.K,fun _=>none,fun _=>0,0⟩ rfl)
  subst hv
  cases (show u=Value.ref C from q2)
  obtain⟨⟨E,L,xk⟩,rs⟩:=G.rai g hr
  obtain⟨kk,f,fd,Mk,F,room,b1,b0,S0⟩:=rs C hD
  have key:∀(R:Ends) (σ:L2.St) (H:Hp) (dvs:List V) (row:List D→D),(∀(w:Vw) ds vs r,excD ds=some r→RDs w ds vs→ds.length=ls.length→∃y,vs++dvs=[y]∧RD w r y)→(∀σD M QD,tes c Z es σD M QD→tes c Z es σD M fun ds M1=>ds.length=ls.length∧QD ds M1)→tFS w0 (ts c Z (.raise g es)) R σ H→
    tFA w0 (tes c Z es) σ H fun vs H1=>vs.length≤8∧∀e,H1 e=none→Qu X.K (.ref e::(vs++dvs)) (upd H1 e (XN e (.ref C) none)) (fun v H2=>v= .non∧∃dd,H2 e=some (XN e (.ref C) dd)∧E (.ref C) dd (upd H2 e (XO e (.ref C) dd))) E0:=by
   rintro R σ H dvs row hrow hlen ⟨w,σD,M,RR,S,q,_⟩
   unfold ts at q
   rw[hD] at q
   refine⟨w,σD,M,_,S,hlen _ _ _ q,fun vs w' ds M' x' r' rd' q'=>?_⟩
   obtain⟨hl,q'⟩:=q'
   split at q'
   ·rename_i r er
    obtain⟨y,ey,ry⟩:=hrow w' ds vs r er rd' hl
    have hvl:vs.length≤8:=by
     have:=congrArg List.length ey
     simp at this
     omega
    refine⟨hvl,fun e he=>⟨e,C,y,by rw[ey],Zz,S0,fun dx hdx=>⟨rfl,some dx,Zz,?_⟩⟩⟩
    obtain⟨eH,hne⟩:=Ba (b:= .xd [("row",y)]) (c':=XN e (.ref C) (some dx)) (d':=XO e (.ref C) (some dx)) hdx
    rw[eH]
    have hdx':w'.H dx=none:=by rw[Ze hne] at hdx;exact hdx
    have he':(w'.alloc dx (.xd [("row",y)])).H e=none:=by
     show upd w'.H dx _ e=none
     rw[Ze (Ne.symm hne)];exact he
    have y1:=V0 (o:= .xd [("row",y)]) hdx'
    have y2:=V0 (o:=XO e (.ref C) (some dx)) he'
    have y12:=y1.trans y2
    refine xk _ _ _ ⟨C,dx,y,(w'.alloc dx (.xd [("row",y)])).alloc e (XO e (.ref C) (some dx)),r,M',rfl,rfl,rfl,(S.ext.trans x').trans y12,(r'.alloc hdx').alloc he',?_,ry.ext y12,q'⟩
    rw[Ze hne,Zz]
   ·exact q'.elim
  cases ls with
  | nil=>
   cases es with
   | cons e r=>exact absurd hs Bool.false_ne_true
   | nil=>
    refine PS.imp (Z02 L (G.calm hc) Mk F room b1 (dvs:=[.non]) (.cons rfl .nil) g1 q1 g2) fun R σ H h=>?_
    obtain⟨w,σD,M,QD,S,q,a⟩:=key R σ H [.non] (fun _=> .non) (fun w ds vs r er rd hl=>by
     cases List.length_eq_zero_iff.mp hl
     cases rds0 rd
     cases er
     exact⟨.non,rfl,Yc.mpr rfl⟩) (fun σD M QD h=>⟨rfl,h⟩) h
    have:=a [] w [] M (Ext.refl w) S.rs (RDs.nil w) q
    rw[S.heap] at this
    exact this
  | cons l ls=>
   cases ls with
   | cons _ _=>simp at hn
   | nil=>
    cases es with
    | nil=>exact absurd hs Bool.false_ne_true
    | cons ee r=>
     cases r with
     | cons _ _=>
      change (_&&_)=true at hs
      simp only[Bool.and_eq_true] at hs
      exact absurd hs.2 Bool.false_ne_true
     | nil=>
      change (_&&_)=true at hs
      simp only[Bool.and_eq_true] at hs
      refine PS.imp (Z68 L (G.calm hc) Mk F room b0 (dvs:=[]) .nil g1 q1 ih g2 (Zt hs.1.2) rfl) fun R σ H h=>?_
      exact key R σ H [] (fun _=> .non) (fun w ds vs r er rd hl=>by
       match ds,hl with
       | [d],_=>
        obtain⟨y,rfl,ry⟩:=rds1 rd
        cases er
        exact⟨y,rfl,ry⟩) (fun σD M QD h=>by
       have e:(fun(d:D) (M1:Z0)=>QD [d] M1)=fun d M1=>[d].length=[l].length∧QD [d] M1:=by
        funext d M1
        exact propext ⟨fun z=>⟨rfl,z⟩,fun z=>z.2⟩
       have h':te c Z ee σD M fun(d:D) (M1:Z0)=>QD [d] M1:=h
       rw[e] at h'
       exact h') h
 ·refine PS.imp Eb fun R σ H zz126=>?_
  obtain⟨w,σD,M,RR,S,q,_⟩:=zz126
  unfold ts at q
  split at q
  ·rename_i C e;exact(hD ⟨C,e⟩).elim
  ·exact q
end
theorem Ci{k:Ck}{t x:Expr}(h:Zm9 k t x=true):∃n np el gens scope p,t= .Name n np∧x= .ListComp el gens scope p:=by
 cases t with
 | Name n np=>
  cases x with
  | ListComp el gens scope p=>exact⟨_,_,_,_,_,_,rfl,rfl⟩
  | _=>exact absurd h Bool.false_ne_true
 | _=>exact absurd h Bool.false_ne_true
theorem C9{k:Ck}{t x:Expr}(h:Zy8 k t x=true):∃n np el gens scope p,t= .Name n np∧x= .ListComp el gens scope p∧k.sc.names.lookup n=some .cell:=by
 cases t with
 | Name n np=>
  cases x with
  | ListComp el gens scope p=>exact⟨_,_,_,_,_,_,rfl,rfl,eq_of_beq h⟩
  | _=>exact absurd h Bool.false_ne_true
 | _=>exact absurd h Bool.false_ne_true
theorem Cd{k:Ck}{e:E}{el:Expr}{gens:List Comprehension}{scope:Scope}{p:Pos}(h:chkE k e (.ListComp el gens scope p)=true):
  ∃N' js tg it cd e' t iter ifs,e= .comp N' js tg it cd e'∧gens=[⟨t,iter,ifs,0⟩]:=by
 cases e with
 | comp N' js tg it cd e'=>
  cases gens with
  | nil=>exact absurd h Bool.false_ne_true
  | cons g r=>
   cases g with
   | mk t iter ifs as=>
    cases as with
    | ofNat n=>
     cases n with
     | zero=>
      cases r with
      | nil=>exact⟨_,_,_,_,_,_,_,_,_,rfl,rfl⟩
      | cons _ _=>exact absurd h Bool.false_ne_true
     | succ n=>exact absurd h Bool.false_ne_true
    | negSucc n=>exact absurd h Bool.false_ne_true
 | bop b es=>cases b<;>exact absurd h Bool.false_ne_true
 | _=>exact absurd h Bool.false_ne_true
theorem Z34(c:Cfg)(tg:List Nat)(e:E):Bz c (.set tg e):=by
  intro k Z w0 X st G h
  cases st with
  | Assign ts' x pos=>
   match ts',h with
   | [t],h=>
    change (_&&_)=true at h
    simp only[Bool.and_eq_true,Bool.or_eq_true,decide_eq_true_eq] at h
    obtain⟨⟨ht,he⟩,h⟩:=h
    rcases h with(⟨hc,hs⟩ | ⟨hs,hl⟩) | hs
    rotate_left 2
    ·obtain⟨n,np,el,gens,scope,p,rfl,rfl,hcell⟩:=C9 hs
     have h1:swapsWithSole [.Name n np] (.ListComp el gens scope p) pos.line X.env=pure false:=by
      have hk:X.env.kindOf n=some .cell:=by
       unfold Env.kindOf
       rw[G.sc];exact hcell
      have hk':(X.env.kindOf n==some NameKind.local)=false:=by rw[hk];rfl
      unfold swapsWithSole swapsWith
      simp only[hk',Bool.and_false,Bool.false_and]
     refine PS.imp (Zk3 (Zp c e k Z w0 X _ G he).1 (G.tgt tg _ ht) h1 rfl rfl) fun R σ H zz127=>?_
     obtain⟨w,σD,M,RR,S,q,q1,q2,q3,q4⟩:=zz127
     refine Yi S q fun v w' d M' x' r' rd' q'=>?_
     exact⟨w',σD,M',d,_,S.next x' r',rd',q',fun σ' σD' e' z=>q1 σ' w' σD' M' x' r' e' z⟩
    ·have h1:swapsWithSole [t] x pos.line X.env=pure false:=Jv hc
     have h2:swappedStores [t] x X.env=pure none:=by
      cases t with
      | Name n p=>cases x<;>rfl
      | Tuple es kk p=>
       have:Z41 x=true:=hs.resolve_left (by simp[Zi5])
       cases x<;>first | rfl | cases this
      | _=>exact absurd ht Bool.false_ne_true
     have h3:(assignEach [t] X.env).map (·.2)=[assign t X.env]:=by
      cases t with
      | Name n p=>rfl
      | Tuple es kk p=>rfl
      | _=>exact absurd ht Bool.false_ne_true
     refine PS.imp (Zk3 (Zp c e k Z w0 X x G he).1 (G.tgt tg t ht) h1 h2 h3) fun R σ H zz128=>?_
     obtain⟨w,σD,M,RR,S,q,q1,q2,q3,q4⟩:=zz128
     refine Yi S q fun v w' d M' x' r' rd' q'=>?_
     exact⟨w',σD,M',d,_,S.next x' r',rd',q',fun σ' σD' e' z=>q1 σ' w' σD' M' x' r' e' z⟩
    ·match tg,hl,ht with
     | [i],_,ht=>
      obtain⟨n,np,el,gens,scope,p,rfl,rfl⟩:=Ci hs
      obtain⟨N',js,tg,it,cd,e,t2,iter,ifs,rfl,rfl⟩:=Cd he
      change (_&&_)=true at he
      simp only[Bool.and_eq_true,decide_eq_true_eq] at he
      obtain⟨⟨⟨⟨⟨⟨⟨⟨h1,h2⟩,h3⟩,h4⟩,h5⟩,h6⟩,h7⟩,h8⟩,h9⟩:=he
      change (_&&_)=true at ht
      simp only[Bool.and_eq_true,beq_iff_eq] at ht
      simp only[Zm9,Bool.and_eq_true,beq_iff_eq,Bool.not_eq_true'] at hs
      obtain⟨⟨⟨s1,s2⟩,s3⟩,s4⟩:=hs
      have hl':X.env.scope.names.lookup n=some .local:=by
       unfold Ck.loc at s2
       rw[G.sc];exact eq_of_beq s2
      have hsw:swapsWith (.ListComp el [⟨t2,iter,ifs,0⟩] scope p) (some (.Name n np)) pos.line X.env=pure true:=by
       unfold swapsWith
       have hb:(X.env.blockKind==ScopeKind.function)=true:=by
        unfold Env.blockKind
        rw[G.sc,s1];rfl
       have hk:(X.env.kindOf n==some NameKind.local)=true:=by
        unfold Env.kindOf
        rw[hl'];rfl
       have hp:(np.line==(Expr.ListComp el [⟨t2,iter,ifs,0⟩] scope p).pos.line)=true:=by
        show(np.line==p.line)=true
        rw[s3];simp
       simp only[hb,hk,hp,s4,Bool.not_false,Bool.and_self]
      refine PS.imp ((Qx G h1 h2 h3 h5 (Z27 c it k Z w0 X t2 iter G h4 h9) h6 h7 h8 (Zp c e) (Ek c cd)).2 i n np pos (by rw[G.N];exact ht.1) hl' hsw) fun R σ H zz129=>?_
      obtain⟨w,σD,M,RR,S,q,q1,q2,q3,q4⟩:=zz129
      have q:te c Z (.comp N' js tg it cd e) σD M fun d M1=>RR.nx (σD.set i (some d)) M1:=q
      refine Yi S q fun v w' d M' x' r' rd' q'=>?_
      exact q1 _ w' _ M' x' r' ((S.env.ext x').set i rd') q'
     | [],hl,_=>simp at hl
     | _::_::_,hl,_=>simp at hl
   | [],h=>exact absurd h Bool.false_ne_true
   | _::_::_,h=>exact absurd h Bool.false_ne_true
  | _=>exact absurd h Bool.false_ne_true
theorem Z14(c:Cfg)(o i v:E):Bz c (.put o i v):=by
  intro k Z w0 X st G h
  cases st with
  | Assign ts' x pos=>
   match ts',h with
   | [t],h=>
    cases t with
    | Subscript l r p=>
     change (_&&_)=true at h
     simp only[Bool.and_eq_true] at h
     obtain⟨⟨⟨⟨h1,h2⟩,h3⟩,h4⟩,h5⟩:=h
     refine PS.imp (Zy4 (by have:=G.units;omega) (Zp c o k Z w0 X l G h4).1 (Zp c i k Z w0 X r G h5).1 (Zp c v k Z w0 X x G h3).1 (Jv h2)) fun R σ H zz130=>?_
     obtain⟨w,σD,M,RR,S,q,q1,q2,q3,q4⟩:=zz130
     refine Yi S q fun vv w1 dv M1 x1 r1 rd1 z1=>?_
     refine Yi (S.next x1 r1) z1 fun vo w2 dob M2 x2 r2 rd2 z2=>?_
     refine Yi ((S.next x1 r1).next x2 r2) z2 fun vi w3 di M3 x3 r3 rd3 z3=>?_
     split at z3
     ·obtain⟨hn,rfl⟩:=Zv.mp (rd2.ext x3)
      rcases z3 with⟨xs,kk,j,rfl,y1,y2,y3⟩ | ⟨kvs,kk,y1,y2,y3,y4⟩
      ·cases Zf.mp rd3
       obtain⟨hn,vs,u1,u2⟩:=r3.list y1
       obtain⟨t1,t2⟩:=We r3 hn u1 (u2.set (rd1.ext (x2.trans x3)) j)
       exact .inl ⟨_,vs,kk,j,rfl,rfl,u1,by rw[u2.length];exact y2,q1 σ _ σD _ (((x1.trans x2).trans x3).trans t1) t2 (S.env.ext (((x1.trans x2).trans x3).trans t1)) y3⟩
      ·obtain⟨hn,vs,u1,u2⟩:=r3.dict y1
       cases Vn y2 rd3
       obtain⟨t1,t2⟩:=Vg r3 hn u1 (u2.put (k:=kk) (rd1.ext (x2.trans x3)))
       exact .inr ⟨_,_,rfl,DPut.k (k:=kk) u1 (by rw[u2.length];exact y3),q1 σ _ σD _ (((x1.trans x2).trans x3).trans t1) t2 (S.env.ext (((x1.trans x2).trans x3).trans t1)) y4⟩
     ·exact z3.elim
    | _=>exact absurd h Bool.false_ne_true
   | [],h=>exact absurd h Bool.false_ne_true
   | a::b::r,h=>cases a<;>exact absurd h Bool.false_ne_true
  | _=>exact absurd h Bool.false_ne_true
theorem Cg{k:Ck}{hh:Tk}{f:Nat}{es:Es}{g:Nat}{s:Ss}{st:Stmt}(h:chkS k (.tryN hh f es g s) st=true):∃bs x np s0 ss hp pos,st= .Try [bs] [.ExceptHandler (some (.Name x np)) none (s0::ss) hp] [] [] pos∧
  (k.calm&&k.tries&&k.GN[g]?==some x&&k.glob x&&chkB {k with tries:=false,raises:=[]} hh f es bs&&
   Yh {k with calm:=false,loops:=true,tries:=false,raises:=[]} s (s0::ss))=true:=by
 cases st with
 | Try b hs o f pos=>
  cases b with
  | nil=>exact absurd h Bool.false_ne_true
  | cons b0 b1=>
  cases b1 with
  | cons _ _=>exact absurd h Bool.false_ne_true
  | nil=>
  cases hs with
  | nil=>exact absurd h Bool.false_ne_true
  | cons h0 h1=>
  cases h0 with
  | ExceptHandler ty nm bd hp=>
  cases ty with
  | none=>exact absurd h Bool.false_ne_true
  | some ty=>
  cases ty with
  | Name x np=>
   cases nm with
   | some n=>exact absurd h Bool.false_ne_true
   | none=>
   cases bd with
   | nil=>exact absurd h Bool.false_ne_true
   | cons s0 ss=>
   cases h1 with
   | cons _ _=>exact absurd h Bool.false_ne_true
   | nil=>
   cases o with
   | cons _ _=>exact absurd h Bool.false_ne_true
   | nil=>
   cases f with
   | cons _ _=>exact absurd h Bool.false_ne_true
   | nil=>exact⟨_,_,_,_,_,_,_,rfl,h⟩
  | _=>exact absurd h Bool.false_ne_true
 | _=>exact absurd h Bool.false_ne_true
theorem Gf{k:Ck}{g:Nat}{es:Es}{st:Stmt}(h:chkS k (.raise g es) st=true):∃x np ls cp pos,st= .Raise (some (.Call (.Name x np) ls [] cp)) none pos∧
  (k.calm&&k.raises.contains g&&k.GN[g]?==some x&&k.glob x&&decide (ls.length≤1)&&Xp k es ls)=true:=by
 cases st with
 | Raise ex ca pos=>
  cases ex with
  | none=>exact absurd h Bool.false_ne_true
  | some ex=>
  cases ex with
  | Call fn ls ks cp=>
   cases fn with
   | Name x np=>
    cases ks with
    | cons _ _=>exact absurd h Bool.false_ne_true
    | nil=>
    cases ca with
    | some _=>exact absurd h Bool.false_ne_true
    | none=>exact⟨_,_,_,_,_,rfl,h⟩
   | _=>exact absurd h Bool.false_ne_true
  | _=>exact absurd h Bool.false_ne_true
 | _=>exact absurd h Bool.false_ne_true
mutual
theorem Y21(c:Cfg):∀s:S,Bz c s
 | .ret e,k,Z,w0,X,st,G,h=>by
  cases st with
  | Return v pos=>
   cases v with
   | some x=>exact PS.imp (Zu7 (Zp c e k Z w0 X x G h).1) fun R σ H zz131=>by obtain⟨w,σD,M,RR,S,q,h1,h2,h3,h4⟩:=zz131;exact Yi S q h2
   | none=>exact absurd h Bool.false_ne_true
  | _=>exact absurd h Bool.false_ne_true
 | .expr e,k,Z,w0,X,st,G,h=>by
  cases st with
  | Expr x pos=>
   change (_&&_)=true at h
   simp only[Bool.and_eq_true] at h
   exact PS.imp (Zq7 (Zp c e k Z w0 X x G h.2).1 (Jv h.1)) fun R σ H zz132=>by obtain⟨w,σD,M,RR,S,q,h1,h2,h3,h4⟩:=zz132;exact Yi S q fun v w' d M' x' r' rd' q'=>h1 σ w' σD M' x' r' (S.env.ext x') q'
  | _=>exact absurd h Bool.false_ne_true
 | .set tg e,k,Z,w0,X,st,G,h=>Z34 c tg e k Z w0 X st G h
 | .put o i v,k,Z,w0,X,st,G,h=>Z14 c o i v k Z w0 X st G h
 | .ite t a b,k,Z,w0,X,st,G,h=>by
  cases st with
  | If x ls rs pos=>
   change (_&&_)=true at h
   simp only[Bool.and_eq_true] at h
   obtain⟨⟨⟨h1,h2⟩,h3⟩,h4⟩:=h
   refine PS.imp (Y71 ((Zp c t k Z w0 X x G h1).2 h2) (Wj c a k Z w0 X ls G h3) (Wj c b k Z w0 X rs G h4)) fun R σ H zz133=>?_
   obtain⟨w,σD,M,RR,S,q,q1,q2,q3,q4⟩:=zz133
   refine⟨w,σD,M,_,S,q,fun z w1 M1 x1 r1 y1=>?_⟩
   have fin:∀{f:DS},f RR σD M1→tFS w0 f R σ w1.H:=fun hf=>Qt (S.next x1 r1) hf (fun σ' w' σD' M' x' r' e' z=>q1 σ' w' σD' M' (x1.trans x') r' e' z) (q2.ext x1)
    (fun σ' w' σD' M' x' r' e' z=>q3 σ' w' σD' M' (x1.trans x') r' e' z) (fun σ' w' σD' M' x' r' e' z=>q4 σ' w' σD' M' (x1.trans x') r' e' z)
   cases z with
   | true=>
    rw[if_pos rfl] at y1
    show if (true:Bool)=true then _ else _
    rw[if_pos rfl];exact fin y1
   | false=>
    rw[if_neg Bool.false_ne_true] at y1
    show if (false:Bool)=true then _ else _
    rw[if_neg Bool.false_ne_true];exact fin y1
  | _=>exact absurd h Bool.false_ne_true
 | .for_ tg it b,k,Z,w0,X,st,G,h=>by
  cases st with
  | For t x ls els pos=>
   cases els with
   | nil=>
    change (_&&_)=true at h
    simp only[Bool.and_eq_true] at h
    obtain⟨⟨⟨⟨⟨⟨h1,h2⟩,h3⟩,h4⟩,h5⟩,h6⟩,h7⟩:=h
    have hf:∀v,foldedSetIterable x X.env v=pure v:=by
     intro v
     cases x<;>first | rfl | cases h3
    refine PS.imp (Zl1 (G.po h2) (G.calm h1) (Z27 c it k Z w0 X t x G h5 h7) (G.tgt tg t h4) (Wj c b k Z w0 X ls G h6) hf) fun R σ H zz134=>?_
    obtain⟨w,σD,M,RR,S,q,q1,q2,q3,q4⟩:=zz134
    refine⟨w,σD,M,_,S,q,fun J w1 own xs M1 x1 r1 jk z=>?_⟩
    exact Z00 (S.next x1 r1) jk z (fun σ' w' σD' M' x' r' e' z=>q1 σ' w' σD' M' (x1.trans x') r' e' z) (q2.ext x1)
   | cons _ _=>exact absurd h Bool.false_ne_true
  | _=>exact absurd h Bool.false_ne_true
 | .forK tg e b,k,Z,w0,X,st,G,h=>by
  cases st with
  | For t x ls els pos=>
   cases els with
   | nil=>
    change (_&&_)=true at h
    simp only[Bool.and_eq_true] at h
    obtain⟨⟨⟨⟨⟨h1,h2⟩,h3⟩,h4⟩,h5⟩,h6⟩:=h
    have hf:∀v,foldedSetIterable x X.env v=pure v:=by
     intro v
     cases x<;>first | rfl | cases h3
    refine PS.imp (Zn6 (Zl1 (G.po h2) (G.calm h1) (Zr2 (Zp c e k Z w0 X x G h5).1) (G.tgt tg t h4) (Wj c b k Z w0 X ls G h6) hf)) fun R σ H zz135=>?_
    obtain⟨w,σD,M,RR,S,q,q1,q2,q3,q4⟩:=zz135
    refine Yi S q fun v w1 d M1 x1 r1 rd1 z=>?_
    split at z
    ·obtain⟨hn,rfl⟩:=Zv.mp rd1
     obtain⟨kvs,z1,z2⟩:=z
     obtain⟨hM,vs,y1,y2⟩:=r1.dict z1
     refine⟨_,vs,rfl,y1,fun o nf=>?_⟩
     rename_i _ n
     have x2:Ext w1 (w1.alloc (w1.μ n) (.frz o (.dK vs))):=Wc y1 rfl
     have r2:RS (w1.alloc (w1.μ n) (.frz o (.dK vs))) (M1.set n (.fdc kvs)):=r1.write hM rfl rfl y1 rfl ⟨o,vs,Zz,y2.ext x2⟩
     refine Z00 (R:=Zo3 X R) (S.next (x1.trans x2) r2) (Za2 (w1:=w1.alloc (w1.μ n) (.frz o (.dK vs))) (n:=n) hn Zz) z2 (fun σ' w' σD' M' x' r' e' ⟨kvs',t1,t2⟩=>?_) (fun v w' d M' x' r' rd' ⟨kvs',t1,t2⟩=>?_)
     ·obtain⟨a1,a2,a3,a4⟩:=Jd hn y1 x' r' t1
      exact⟨_,o,vs,a1,nf,q1 σ' _ σD' _ (x1.trans a2) a4 (e'.ext0 a3) t2⟩
     ·obtain⟨a1,a2,a3,a4⟩:=Jd hn y1 x' r' t1
      exact⟨_,o,vs,a1,nf,q2 v _ d _ (x1.trans a2) a4 (rd'.ext0 a3) t2⟩
    ·exact z.elim
   | cons _ _=>exact absurd h Bool.false_ne_true
  | _=>exact absurd h Bool.false_ne_true
 | .while_ t b,k,Z,w0,X,st,G,h=>by
  cases st with
  | While x ls els pos=>
   cases els with
   | nil=>
    change (_&&_)=true at h
    simp only[Bool.and_eq_true] at h
    obtain⟨⟨⟨h1,h2⟩,h3⟩,h4⟩:=h
    refine PS.imp (Zb2 (G.po h1) ((Zp c t k Z w0 X x G h2).2 h3) (Wj c b k Z w0 X ls G h4)) fun R σ H zz138=>?_
    obtain⟨w,σD,M,RR,S,q,q1,q2,q3,q4⟩:=zz138
    obtain⟨W,⟨m0,hm0⟩,step⟩:=q
    refine⟨fun m σ H=>∃w2 σE M2,StOk w0 w2 σE M2 σ H∧Ext w w2∧W m σE M2,⟨m0,w,σD,M,S,Ext.refl w,hm0⟩,?_⟩
    rintro m σ2 H2 ⟨w2,σE,M2,S2,x2,hW⟩
    refine⟨w2,σE,M2,_,S2,step m σE M2 hW,fun z w3 M3 x3 r3 y3=>?_⟩
    cases z with
    | false=>
     rw[if_neg Bool.false_ne_true] at y3 ⊢
     exact q1 σ2 w3 σE M3 (x2.trans x3) r3 (S2.env.ext x3) y3
    | true=>
     rw[if_pos rfl] at y3 ⊢
     have nxt:∀σ' w' σD' M',Ext w3 w'→RS w' M'→REnv w' σD' σ'→(∃m',m'<m∧W m' σD' M')→∃m',m'<m∧∃w2 σE M2,StOk w0 w2 σE M2 σ' w'.H∧Ext w w2∧W m' σE M2:=
      fun σ' w' σD' M' x' r' e' zz139=>by obtain⟨m',l',z'⟩:=zz139;exact⟨m',l',w',σD',M',⟨rfl,(S2.ext.trans x3).trans x',r',e'⟩,(x2.trans x3).trans x',z'⟩
     refine⟨fun σ' H'=>∃m',m'<m∧∃w2 σE M2,StOk w0 w2 σE M2 σ' H'∧Ext w w2∧W m' σE M2,fun σ' H' z=>z,?_⟩
     exact Qt (S2.next x3 r3) y3 nxt (fun v w' d M' x' r' rd' z'=>q2 v w' d M' ((x2.trans x3).trans x') r' rd' z') (fun σ' w' σD' M' x' r' e' z'=>q1 σ' w' σD' M' ((x2.trans x3).trans x') r' e' z') nxt
   | cons _ _=>exact absurd h Bool.false_ne_true
  | _=>exact absurd h Bool.false_ne_true
 | .raise g es,k,Z,w0,X,st,G,h=>by
  obtain⟨x,np,ls,cp,pos,rfl,hs⟩:=Gf h
  simp only[Bool.and_eq_true,beq_iff_eq,decide_eq_true_eq] at hs
  obtain⟨⟨⟨⟨⟨h1,h2⟩,h3⟩,h4⟩,h5⟩,h6⟩:=hs
  exact G4 G h1 h2 h3 h4 h5 h6 (Xm c es k Z w0 X ls G h6).1
 | .tryN hh f es g s,k,Z,w0,X,st,G,h=>by
  obtain⟨bs,x,np,s0,ss,hp,pos,rfl,hs⟩:=Cg h
  simp only[Bool.and_eq_true,beq_iff_eq] at hs
  obtain⟨⟨⟨⟨⟨h1,h2⟩,h3⟩,h4⟩,h7⟩,h8⟩:=hs
  exact B0 G h1 h2 h3 h4 h7 h8 (Wj c s)
theorem Wj(c:Cfg):∀s:Ss,Z49 c s
 | .nil,k,Z,w0,X,st,G,h=>by
  cases st with
  | nil=>
   refine PSs.imp Z16 fun R σ H zz140=>?_
   obtain⟨w,σD,M,RR,S,q,h1,_⟩:=zz140
   have:=h1 σ w σD M (Ext.refl w) S.rs S.env q
   rw[S.heap] at this
   exact this
  | cons _ _=>exact absurd h Bool.false_ne_true
 | .cons s r,k,Z,w0,X,st,G,h=>by
  cases st with
  | nil=>exact absurd h Bool.false_ne_true
  | cons x xs=>
   change (_&&_)=true at h
   simp only[Bool.and_eq_true] at h
   refine PSs.imp (Fw (Y21 c s k Z w0 X x G h.1) (Wj c r k Z w0 X xs G h.2)) fun R σ H zz141=>?_
   obtain⟨w,σD,M,RR,S,q,h1,h2,h3,h4⟩:=zz141
   refine Qt S q ?_ h2 h3 h4
   intro σ' w' σD' M' x' r' e' q'
   exact Qt ⟨rfl,S.ext.trans x',r',e'⟩ q' (fun σ2 w2 σD2 M2 x2 r2 e2 z=>h1 σ2 w2 σD2 M2 (x'.trans x2) r2 e2 z) (h2.ext x') (fun σ2 w2 σD2 M2 x2 r2 e2 z=>h3 σ2 w2 σD2 M2 (x'.trans x2) r2 e2 z) (fun σ2 w2 σD2 M2 x2 r2 e2 z=>h4 σ2 w2 σD2 M2 (x'.trans x2) r2 e2 z)
end
theorem FnOk.cx{P:Program}{w:World}{K:PySem.W.Frag}{mg:Str→Option Value}{base:Heap}{CX:CXT}{k:Nat}{f:Addr}{fd:FuncData}{ps:List Str}{sp:Sp}(F:FnOk P w K mg base CX0 k f fd ps sp):FnOk P w K mg base CX k f fd ps sp:=
 ⟨F.len,fun A outer s H args us vs Q E hr he hb hv hs=>codeAny_mono (F.run A outer s H args us vs Q E hr he hb hv hs) fun r s' h=>by
  cases r with
  | error e=>exact False.elim h
  | ok fl=>cases fl<;>exact h⟩
structure Prg(P:Program)(w:World)(K:PySem.W.Frag)(mg:Str→Option Value)(base:Heap)(c:Cfg)(FN GN BN:List Str)(lv:Nat):Prop where
 hK:c.K=K
 fns:∀(f:Nat) (x:Str) (sp:DSp),FN[f]?=some x→c.Γ[f]?=some sp→∃(kk:Nat) (f:Addr) (fd:FuncData) (ps:List Str) (ds:List Value) (dvs:List V) (dD:List D) (sp0:DSp),FnOk P w K mg base (CX1 P w) kk f fd ps (spF K sp0)∧kk≤lv∧mg x=some (.ref f)∧PySem.W.keepIn K (.ref f)=true∧
  Zr K fd ps ds∧Vals dvs ds∧(∀w:Vw,w.K=K→RDs w dD dvs)∧∀as M Q Z,sp as M Q Z→sp0 (as++dD) M Q Z
 kwd:∀sp:DSp,c.Γ[14]?=some sp→∃(kk:Nat) (f:Addr) (fd:FuncData) (ps:List Str),FnOk P w K mg base (CX1 P w) kk f fd ps (spF K sp)∧kk≤lv∧mg "run_graph"=some (.ref f)∧PySem.W.keepIn K (.ref f)=true∧KB K fd ps
 flen:FN.length=c.Γ.length
 glb:∀(g:Nat) (x:Str) (d:D),GN[g]?=some x→c.G[g]?=some d→∃v u,mg x=some u∧RelV v u∧∀w:Vw,w.K=K→RD w d v
 blt:∀x,x∈BN→mg x=none
noncomputable def start0(N:List Str)(ds:List D):DEnv:=ds.map some++List.replicate (N.length - ds.length) none
theorem Ox{w:Vw}{N:List Str}{ds:List D}{vs:List V}(r:RDs w ds vs):REnv w (start0 N ds) (L2.start N vs):=by
 refine⟨by unfold start0 L2.start;simp[r.length],fun i d e=>?_⟩
 unfold start0 at e
 unfold L2.start
 by_cases hi:i<ds.length
 ·rw[List.getElem?_append_left (by simpa using hi),List.getElem?_map] at e
  rw[List.getElem?_append_left (by rw[List.length_map,r.length];exact hi),List.getElem?_map]
  cases hd:ds[i]? with
  | none=>rw[hd] at e;cases e
  | some d'=>
   rw[hd] at e
   have e':d'=d:=by simpa using e
   subst e'
   obtain⟨v,q1,q2⟩:=r.get hd
   exact⟨v,by rw[q1];rfl,q2⟩
 ·rw[List.getElem?_append_right (by simpa using hi)] at e
  have:=List.getElem?_eq_some_iff.mp e
  simp at this
section
variable{P:Program}{w:World}{K:PySem.W.Frag}{mg:Str→Option Value}{base:Heap}{c:Cfg}{FN GN BN:List Str}{lv:Nat}{x qual:Str}{st:Stmt}{f:Addr}{fd:FuncData}{N ps:List Str}
noncomputable abbrev ck0(N:List Str)(st:Stmt)(FN GN BN:List Str):Ck:=⟨N,Z2 st,FN,GN,BN,true,true,true,[],true,[]⟩
noncomputable abbrev ck1(rs:List Nat)(N:List Str)(st:Stmt)(FN GN BN:List Str):Ck:=⟨N,Z2 st,FN,GN,BN,true,true,true,rs,true,[]⟩
theorem fn0(Pr:Prg P w K mg base c FN GN BN lv)(F:Fun K x qual st f fd)(S:FnScope N ps (Z2 st)){body:Ss}(hc:Yh (ck0 N st FN GN BN) body (Z5 st)=true){sp:DSp}(hl:∀ds M Q Z,sp ds M Q Z→ds.length=ps.length)
  (hb:∀ds M Q Z,sp ds M Q Z→tss c noX body {nx:=fun _ M=>Q .non M,rt:=Q} (start0 N ds) M):FnOk P w K mg base (CX1 P w) (lv+1) f fd ps (spF K sp):=by
 refine FnOk.cx (F.ok S (fun vs H Q E h=>?_) fun cdv A outer s H vs Q E hr h=>?_)
 ·obtain⟨w,ds,M,QD,Z,_,_,_,r,h,_⟩:=h
  rw[r.length];exact hl _ _ _ _ h
 obtain⟨w',ds,M,QD,Z,hK',rfl,R,r,h,a,xk⟩:=h
 have G:Good c (ck0 N st FN GN BN) noX w' (cxOf CX0 P w K mg base N qual (Z2 st) f cdv A outer s w'.H E).nox:=
  {hK:=Pr.hK.symm
   wK:=hK'.trans Pr.hK.symm
   N:=rfl
   nd:=S.nd
   sc:=rfl
   calm:=fun _=>rfl
   units:=hr.units
   kwd:=fun _ sp h2=>by
    obtain⟨kk,f,fd,ps,F,hk,h⟩:=Pr.kwd sp h2
    exact⟨kk,f,fd,ps,F,hr.mono hk,h⟩
   fns:=fun _ f x sp h1 h2=>by
    obtain⟨kk,f,fd,ps,ds,dvs,dD,sp0,F,hk,h⟩:=Pr.fns f x sp h1 h2
    exact⟨kk,f,fd,ps,ds,dvs,dD,sp0,F,hr.mono hk,h⟩
   flen:=Pr.flen
   glb:=Pr.glb
   blt:=Pr.blt
   exc:=⟨E0,fun _ _ _ _ _ _ _ h=>by
    obtain⟨_,_,_,_,_,_,_,_,_,_,_,_,_,_,_,h⟩:=h
    exact h.elim,fun cls dd H' h=>by
    obtain⟨_,_,_,_,_,_,_,_,_,_,_,_,_,h⟩:=h
    exact h.elim⟩
   stk:=fun _=>⟨rfl,rfl⟩
   rai:=fun _ h=>absurd h Bool.false_ne_true
   po:=fun _=>PassesOwn.never
   fnc:=fun _ _=>rfl
   fno:=fun _ h=>by cases h}
 refine⟨_,Wj c body _ _ w' _ _ G hc,w',start0 N ds,M,{nx:=fun _ M=>QD .non M,rt:=QD},⟨rfl,Ext.refl w',R,Ox r⟩,hb _ _ _ _ h,?_,a,?_,?_⟩
 ·exact fun σ' w2 σD' M' x' r' e' q'=>a .non w2 .non M' x' r' (Yc.mpr rfl) q'
 ·exact fun σ' w2 σD' M' x' r' e' q'=>q'.elim
 ·exact fun σ' w2 σD' M' x' r' e' q'=>q'.elim
def PrgR(P:Program)(w:World)(K:PySem.W.Frag)(mg:Str→Option Value)(base:Heap)(c:Cfg)(rs:List Nat)(lv:Nat):Prop:=∀g:Nat,rs.contains g=true→∀C:Addr,c.G[g]?=some (.cls C)→∃(kk:Nat) (f:Addr) (fd:FuncData),ExcMk K C f∧FnOk P w K mg base CX0 kk f fd ["self","row"] (Qu K)∧kk+1≤lv∧
 Zr K fd ["self","row"] [.none]∧Zr K fd ["self","row"] []∧ExcSet K C "row"
theorem fn1(Pr:Prg P w K mg base c FN GN BN lv){rs:List Nat}(Rr:PrgR P w K mg base c rs lv)(F:Fun K x qual st f fd)(S:FnScope N ps (Z2 st)){body:Ss}(hc:Yh (ck1 rs N st FN GN BN) body (Z5 st)=true){sp:DSp}(hl:∀ds M Q Z,sp ds M Q Z→ds.length=ps.length)
  (hb:∀ds M Q Z,sp ds M Q Z→tss c Z body {nx:=fun _ M=>Q .non M,rt:=Q} (start0 N ds) M):FnOk P w K mg base (CX1 P w) (lv+1) f fd ps (spF K sp):=by
 refine Zr4 F S (fun vs H Q E h=>?_) fun cdv A outer s H vs Q E hr h=>?_
 ·obtain⟨w,ds,M,QD,Z,_,_,_,r,h,_⟩:=h
  rw[r.length];exact hl _ _ _ _ h
 obtain⟨w',ds,M,QD,Z,hK',rfl,R,r,h,a,xk⟩:=h
 have G:Good c (ck1 rs N st FN GN BN) Z w' (cxOf (CX1 P w) P w K mg base N qual (Z2 st) f cdv A outer s w'.H E):=
  {hK:=Pr.hK.symm
   wK:=hK'.trans Pr.hK.symm
   N:=rfl
   nd:=S.nd
   sc:=rfl
   calm:=fun _=>rfl
   units:=hr.units
   kwd:=fun _ sp h2=>by
    obtain⟨kk,f,fd,ps,F,hk,h⟩:=Pr.kwd sp h2
    exact⟨kk,f,fd,ps,F,hr.mono hk,h⟩
   fns:=fun _ f x sp h1 h2=>by
    obtain⟨kk,f,fd,ps,ds,dvs,dD,sp0,F,hk,h⟩:=Pr.fns f x sp h1 h2
    exact⟨kk,f,fd,ps,ds,dvs,dD,sp0,F,hr.mono hk,h⟩
   flen:=Pr.flen
   glb:=Pr.glb
   blt:=Pr.blt
   exc:=⟨E,Y52 Jh,xk⟩
   stk:=fun _=>⟨rfl,rfl⟩
   rai:=fun g hm=>⟨⟨E,Jh,xk⟩,fun C hg=>by
    obtain⟨kk,f,fd,h1,h2,h3,h4,h5,h6⟩:=Rr g hm C hg
    exact⟨kk,f,fd,h1,h2,hr.mono h3,h4,h5,h6⟩⟩
   po:=fun _=>PassesOwn.leaving
   fnc:=fun _ _=>rfl
   fno:=fun _ h=>by cases h}
 refine⟨_,Wj c body _ _ w' _ _ G hc,w',start0 N ds,M,{nx:=fun _ M=>QD .non M,rt:=QD},⟨rfl,Ext.refl w',R,Ox r⟩,hb _ _ _ _ h,?_,a,?_,?_⟩
 ·exact fun σ' w2 σD' M' x' r' e' q'=>a .non w2 .non M' x' r' (Yc.mpr rfl) q'
 ·exact fun σ' w2 σD' M' x' r' e' q'=>q'.elim
 ·exact fun σ' w2 σD' M' x' r' e' q'=>q'.elim
end
def Ca:DSp:=fun ds M Q _=>∃ns:List Int,ds=[.ref 0]∧M=[.frz (ns.map .int)]∧ns.length≤63∧(∀i∈ns,Bits bigN i)∧∀M',Q (.bl true) M'
theorem El(w:Vw):∀ns:List Int,RDs w (ns.map .int) (ns.map V.int)
 | []=>RDs.nil w
 | _::r=>RDs.cons (Zf.mpr rfl) (El w r)
theorem Ze6{l:PySem.W.OpenLaw}{k:Nat}{q:Program}{loose:List Str}{XP:(Str→Option Value)→Heap→Prop}{YP:World→Heap→Prop}{d:DefRec}{K:Params→PySem.W.Frag}{x:Str}(hn:l.most=some 63)(hdf:d.params.defaults=[])(hr:Room k callerA)
  (hY:∀(w:World) (h:Heap),YP w h→(K w.params).In h)
  (F:∀(w:World) (mg:Str→Option Value) (fa:Addr) (h:Heap),(K w.params).In h→h.Ns mainGlobals mg→mg d.name=some (.ref fa)→
   ∃fd:FuncData,(∀(s:Shared) (u:Value),BindsTo s fd ⟨[u],[]⟩ [(x,u)])∧∀base:Heap,(K w.params).In base→base.Ns mainGlobals mg→FnOk l.prog w (K w.params) mg base (CX1 l.prog w) k fa fd [x] (spF (K w.params) Ca)):
  PySem.W.WalkO q loose XP YP l.row.toRowW d [] (fun f vs=>PySem.call f vs):=by
 refine Zz1 (n:=63) (k:=k) (x:=x) (CX:=fun w=>CX1 l.prog w) (sp:=fun w=>spF (K w.params) Ca) hn (by decide) hdf hr hY F (fun w H a ns hl hb hO hS=>?_) fun w H s e s' h=>?_
 ·have hF:SqF (K w.params) H a (ns.map V.int):=by
   rcases hS with(h | ⟨o,h⟩) | h
   ·rcases hO a with z | ⟨o,xs,z⟩
    ·rw[z] at h;cases h
    ·rw[z] at h;cases h
   ·exact .inl ⟨o,h⟩
   ·exact .inr (.inr h)
  refine⟨⟨K w.params,H,fun _=>a,1⟩,[.ref 0],[.frz (ns.map .int)],fun d _=>d= .bl true,noX,rfl,rfl,⟨rfl,fun i j ci cj ei ej mi mj _=>?_,fun i c' e=>?_⟩,RDs.cons (Zv.mpr ⟨Nat.one_pos,rfl⟩) (RDs.nil _),⟨ns,rfl,rfl,hl,hb,fun _=>rfl⟩,fun v w' d M' _ _ rd e=>?_,fun cls dd H' h=>?_⟩
  ·have h1:=(List.getElem?_eq_some_iff.mp ei).1
   have h2:=(List.getElem?_eq_some_iff.mp ej).1
   simp at h1 h2
   omega
  ·have h1:=(List.getElem?_eq_some_iff.mp e).1
   have hi:i=0:=by simp at h1;exact h1
   subst hi
   simp at e
   subst e
   exact⟨_,hF,El _ ns⟩
  ·subst e
   exact Xx.mp rd
  ·obtain⟨_,_,_,_,_,_,_,_,_,_,_,_,_,h⟩:=h
   exact h.elim
 ·obtain⟨_,_,_,_,_,_,_,_,_,_,_,_,_,_,_,h⟩:=h
  exact h.elim
def bot:DSp:=fun _ _ _ _=>False
def Ent(K:PySem.W.Frag)(mg:Str→Option Value)(x:Str):Prop:=∃(f:Addr) (fd:FuncData) (ps:List Str),mg x=some (.ref f)∧PySem.W.keepIn K (.ref f)=true∧Zr K fd ps []
section
variable{P:Program}{w:World}{K:PySem.W.Frag}{mg:Str→Option Value}{base:Heap}{Γ:List DSp}{G:List D}{FN GN BN:List Str}{lv:Nat}
theorem Prg.zero(hq:∃(f:Addr) (fd:FuncData) (ps:List Str),mg "run_graph"=some (.ref f)∧PySem.W.keepIn K (.ref f)=true∧KB K fd ps)(hF:∀x∈FN,Ent K mg x)(hl:FN.length=Γ.length)(hb:∀sp∈Γ,sp=bot)(hg:∀(g:Nat) (x:Str) (d:D),GN[g]?=some x→G[g]?=some d→∃v u,mg x=some u∧RelV v u∧∀w:Vw,w.K=K→RD w d v)(hB:∀x∈BN,mg x=none):
  Prg P w K mg base ⟨K,Γ,G⟩ FN GN BN 0 where
 hK:=rfl
 fns:=fun f x sp h1 h2=>by
  obtain⟨fa,fd,ps,e1,e2,e3⟩:=hF x (List.mem_of_getElem? h1)
  have hs:sp=bot:=hb sp (List.mem_of_getElem? h2)
  subst hs
  have no:∀vs H Q E,¬spF K bot vs H Q E:=fun vs H Q E zz142=>by obtain⟨_,_,_,_,_,_,_,_,_,h,_⟩:=zz142;exact h
  exact⟨0,fa,fd,ps,[],[],[],bot,⟨fun vs H Q E h=>absurd h (no vs H Q E),fun A outer s H args us vs Q E _ _ _ _ h=>absurd h (no vs H Q E)⟩,Nat.le_refl _,e1,e2,e3,.nil,fun w _=>RDs.nil w,fun _ _ _ _ h=>h.elim⟩
 kwd:=fun sp h2=>by
  obtain⟨fa,fd,ps,e1,e2,e3⟩:=hq
  have hs:sp=bot:=hb sp (List.mem_of_getElem? h2)
  subst hs
  have no:∀vs H Q E,¬spF K bot vs H Q E:=fun vs H Q E zz143=>by obtain⟨_,_,_,_,_,_,_,_,_,h,_⟩:=zz143;exact h
  exact⟨0,fa,fd,ps,⟨fun vs H Q E h=>absurd h (no vs H Q E),fun A outer s H args us vs Q E _ _ _ _ h=>absurd h (no vs H Q E)⟩,Nat.le_refl _,e1,e2,e3⟩
 flen:=hl
 glb:=hg
 blt:=hB
theorem Prg.addD(Pr:Prg P w K mg base ⟨K,Γ,G⟩ FN GN BN lv)(n:Nat){x:Str}{sp0:DSp}{kk lv':Nat}{f:Addr}{fd:FuncData}{ps:List Str}{ds:List Value}{dvs:List V}{dD:List D}(hx:FN[n]?=some x)(F:FnOk P w K mg base (CX1 P w) kk f fd ps (spF K sp0))(h1:kk≤lv')(h2:lv≤lv')(hm:mg x=some (.ref f))(hk:PySem.W.keepIn K (.ref f)=true)(hb:Zr K fd ps ds)
  (hv:Vals dvs ds) (hd:∀w:Vw,w.K=K→RDs w dD dvs) (hn:n≠14:=by decide):Prg P w K mg base ⟨K,Γ.set n (fun as M Q Z=>sp0 (as++dD) M Q Z),G⟩ FN GN BN lv' where
 hK:=rfl
 fns:=fun m y sp' e1 e2=>by
  by_cases hmn:n=m
  ·subst hmn
   rw[hx] at e1
   cases e1
   have hl:n<Γ.length:=by rw[←Pr.flen];exact(List.getElem?_eq_some_iff.mp hx).1
   have e2:(Γ.set n (fun as M Q Z=>sp0 (as++dD) M Q Z))[n]?=some sp':=e2
   rw[List.getElem?_set_self hl] at e2
   cases e2
   exact⟨kk,f,fd,ps,ds,dvs,dD,sp0,F,h1,hm,hk,hb,hv,hd,fun as M Q Z h=>h⟩
  ·have e2:(Γ.set n (fun as M Q Z=>sp0 (as++dD) M Q Z))[m]?=some sp':=e2
   rw[List.getElem?_set_ne hmn] at e2
   obtain⟨kk,f,fd,ps,ds,dvs,dD,sp1,F,hk,h⟩:=Pr.fns m y sp' e1 e2
   exact⟨kk,f,fd,ps,ds,dvs,dD,sp1,F,Nat.le_trans hk h2,h⟩
 kwd:=fun sp' e2=>by
  have e2:(Γ.set n (fun as M Q Z=>sp0 (as++dD) M Q Z))[14]?=some sp':=e2
  rw[List.getElem?_set_ne hn] at e2
  obtain⟨kk,f,fd,ps,F,hk,h⟩:=Pr.kwd sp' e2
  exact⟨kk,f,fd,ps,F,Nat.le_trans hk h2,h⟩
 flen:=by rw[Pr.flen];simp
 glb:=Pr.glb
 blt:=Pr.blt
theorem Prg.add(Pr:Prg P w K mg base ⟨K,Γ,G⟩ FN GN BN lv)(n:Nat){x:Str}{sp:DSp}{kk lv':Nat}{f:Addr}{fd:FuncData}{ps:List Str}(hx:FN[n]?=some x)(F:FnOk P w K mg base (CX1 P w) kk f fd ps (spF K sp))(h1:kk≤lv')(h2:lv≤lv')(hm:mg x=some (.ref f))(hk:PySem.W.keepIn K (.ref f)=true)(hb:Zr K fd ps [])(hq:n=14→x="run_graph"∧KB K fd ps:=by intro h;exact absurd h (by decide)):
  Prg P w K mg base ⟨K,Γ.set n sp,G⟩ FN GN BN lv' where
 hK:=rfl
 fns:=fun m y sp' e1 e2=>by
  by_cases hmn:n=m
  ·subst hmn
   rw[hx] at e1
   cases e1
   have hl:n<Γ.length:=by rw[←Pr.flen];exact(List.getElem?_eq_some_iff.mp hx).1
   have e2:(Γ.set n sp)[n]?=some sp':=e2
   rw[List.getElem?_set_self hl] at e2
   cases e2
   exact⟨kk,f,fd,ps,[],[],[],sp,F,h1,hm,hk,hb,.nil,fun w _=>RDs.nil w,fun as M Q Z h=>by rw[List.append_nil];exact h⟩
  ·have e2:(Γ.set n sp)[m]?=some sp':=e2
   rw[List.getElem?_set_ne hmn] at e2
   obtain⟨kk,f,fd,ps,ds,dvs,dD,sp0,F,hk,h⟩:=Pr.fns m y sp' e1 e2
   exact⟨kk,f,fd,ps,ds,dvs,dD,sp0,F,Nat.le_trans hk h2,h⟩
 kwd:=fun sp' e2=>by
  have e2:(Γ.set n sp)[14]?=some sp':=e2
  by_cases hmn:n=14
  ·obtain⟨ex,kb⟩:=hq hmn
   have hl:n<Γ.length:=by rw[←Pr.flen];exact(List.getElem?_eq_some_iff.mp hx).1
   rw[←hmn,List.getElem?_set_self hl] at e2
   cases e2
   exact⟨kk,f,fd,ps,F,h1,by rw[←ex];exact hm,hk,kb⟩
  ·rw[List.getElem?_set_ne hmn] at e2
   obtain⟨kk,f,fd,ps,F,hk,h⟩:=Pr.kwd sp' e2
   exact⟨kk,f,fd,ps,F,Nat.le_trans hk h2,h⟩
 flen:=by rw[Pr.flen];simp
 glb:=Pr.glb
 blt:=Pr.blt
end
theorem Zb{M N:Z0}{a:Nat}{xs:List D}(h:Za M a=some xs):Za (M++N) a=some xs:=by
 unfold Za at *
 have ha:a<M.length:=by
  cases e:M[a]? with
  | none=>rw[e] at h;cases h
  | some c=>exact(List.getElem?_eq_some_iff.mp e).1
 rw[List.getElem?_append_left ha];exact h
theorem Zs{M N:Z0}{a:Nat}{xs:List D}(h:Zc M a=some xs):Zc (M++N) a=some xs:=by
 unfold Zc at *
 have ha:a<M.length:=by
  cases e:M[a]? with
  | none=>rw[e] at h;cases h
  | some c=>exact(List.getElem?_eq_some_iff.mp e).1
 rw[List.getElem?_append_left ha];exact h
theorem X6{M N:Z0}{a:Nat}{xs:List (Key×D)}(h:Zd M a=some xs):Zd (M++N) a=some xs:=by
 unfold Zd at *
 have ha:a<M.length:=by
  cases e:M[a]? with
  | none=>rw[e] at h;cases h
  | some c=>exact(List.getElem?_eq_some_iff.mp e).1
 rw[List.getElem?_append_left ha];exact h
theorem Ff(M:Z0)(c:Cell)(N:Z0):(M++c::N)[M.length]?=some c:=by simp
theorem Gg(M N:Z0)(k:Nat):(M++N)[M.length+k]?=N[k]?:=by rw[List.getElem?_append_right (by omega)];congr 1;omega
theorem Zy(M:Z0)(xs:List D)(N:Z0):Za (M++ .lst xs::N) M.length=some xs:=by unfold Za;rw[Ff]
theorem Zu(M:Z0)(xs:List D)(N:Z0):Zc (M++ .lst xs::N) M.length=some xs:=by unfold Zc;rw[Ff]
theorem Y0(M:Z0)(xs:List (Key×D))(N:Z0):Zd (M++ .dct xs::N) M.length=some xs:=by unfold Zd;rw[Ff]
theorem Yp(M N:Z0)(k:Nat):Za (M++N) (M.length+k)=Za N k:=by unfold Za;rw[Gg]
theorem Yj(M N:Z0)(k:Nat):Zc (M++N) (M.length+k)=Zc N k:=by unfold Zc;rw[Gg]
theorem B3(M N:Z0)(k:Nat):Zd (M++N) (M.length+k)=Zd N k:=by unfold Zd;rw[Gg]
theorem Yt(M:Z0)(c d:Cell)(N:Z0):(M++c::N).set M.length d=M++d::N:=by
 rw[List.set_append_right _ _ (Nat.le_refl _)];simp
theorem Yv(M N:Z0)(k:Nat)(d:Cell):(M++N).set (M.length+k) d=M++N.set k d:=by
 rw[List.set_append_right _ _ (by omega)];congr 2;omega
theorem Z3{M:Z0}{n:Nat}{xs:List D}(h:Zc M n=some xs):Za M n=some xs:=Zp3 h
theorem Nx{M:Z0}{a b:Nat}{c:Cell}(h:b≠a):Zc (M.set b c) a=Zc M a:=by unfold Zc;rw[List.getElem?_set_ne h]
theorem Oi{M:Z0}{a b:Nat}{c:Cell}(h:b≠a):Zd (M.set b c) a=Zd M a:=by unfold Zd;rw[List.getElem?_set_ne h]
theorem Xy{M:Z0}{n:Nat}{xs:List (Key×D)}(h:Zd M n=some xs):n<M.length:=by
 unfold Zd at h
 cases e:M[n]? with
 | none=>rw[e] at h;cases h
 | some c=>exact(List.getElem?_eq_some_iff.mp e).1
theorem Og{lo:Int}{n i:Nat}(h:i<n):(Q3 lo n)[i]?=some (.int (lo+i)):=by
 unfold Q3;rw[List.getElem?_map,List.getElem?_range h];rfl
theorem W8(lo:Int)(n:Nat):(Q3 lo n).length=n:=by unfold Q3;simp
theorem Rn{own:Own}{xs:List D}{tg:List Nat}{body:DS}{R:DEnds}{σ:DEnv}{M:Z0}(I:Nat→DEnv→Z0→Prop)(h0:I 0 σ M)(hs:∀i σ M,i≤xs.length→I i σ M→Oc own xs M)
  (step:∀(i:Nat) (d:D) σ M (C:DEnv→Z0→Prop),xs[i]?=some d→I i σ M→(∀σ2 M2,I (i+1) σ2 M2→C σ2 M2)→tgD tg d σ fun σ'=>body {nx:=C,rt:=R.rt,bk:=R.nx,ct:=C} σ' M)
  (fin:∀σ M,I xs.length σ M→R.nx σ M):forD own xs tg body xs R σ M:=by
 have key:∀(j:Nat) σ M,j≤xs.length→I (xs.length - j) σ M→forD own xs tg body (xs.drop (xs.length - j)) R σ M:=by
  intro j
  induction j with
  | zero=>
   intro σ M _ h
   rw[Nat.sub_zero] at h ⊢
   rw[List.drop_length]
   exact⟨hs _ σ M (Nat.le_refl _) h,fin σ M h⟩
  | succ j ih=>
   intro σ M hj h
   have hi:xs.length - (j+1)<xs.length:=by omega
   have e:xs.length - (j+1)+1=xs.length - j:=by omega
   rw[List.drop_eq_getElem_cons hi]
   refine⟨hs _ σ M (by omega) h,step _ _ σ M _ (List.getElem?_eq_getElem hi) h fun σ2 M2 h2=>?_⟩
   rw[e] at h2 ⊢
   exact ih σ2 M2 (by omega) h2
 have:=key xs.length σ M (Nat.le_refl _) (by rw[Nat.sub_self];exact h0)
 rw[Nat.sub_self] at this
 exact this
theorem Sn{lo:Int}{n:Nat}{tg:List Nat}{body:DS}{R:DEnds}{σ:DEnv}{M:Z0}(I:Nat→DEnv→Z0→Prop)(h0:I 0 σ M)
  (step:∀(i:Nat) σ M (C:DEnv→Z0→Prop),i<n→I i σ M→(∀σ2 M2,I (i+1) σ2 M2→C σ2 M2)→tgD tg (.int (lo+i)) σ fun σ'=>body {nx:=C,rt:=R.rt,bk:=R.nx,ct:=C} σ' M)
  (fin:∀σ M,I n σ M→R.nx σ M):forD .no (Q3 lo n) tg body (Q3 lo n) R σ M:=by
 refine Rn I h0 (fun _ _ _ _ _=>trivial) (fun i d σ M C hd hI hC=>?_) (fun σ M h=>fin σ M (by rw[W8] at h;exact h))
 have hi:i<n:=by
  have:=(List.getElem?_eq_some_iff.mp hd).1
  rwa[W8] at this
 rw[Og hi] at hd
 cases hd
 exact step i σ M C hi hI hC
theorem Wi{own:Own}{xs:List D}{tg:List Nat}{cd:DT}{el:DE}{z:Nat}{Q:Z0→Prop}{σ:DEnv}{M:Z0}(I:Nat→DEnv→Z0→Prop)(h0:I 0 σ M)(hs:∀i σ M,i≤xs.length→I i σ M→Oc own xs M)
  (step:∀(i:Nat) (d:D) σ M (C:DEnv→Z0→Prop),xs[i]?=some d→I i σ M→(∀σ2 M2,I (i+1) σ2 M2→C σ2 M2)→tgD tg d σ fun σ'=>cd σ' M fun b M1=>if b=true then
   el σ' M1 fun y M2=>∃acc,Zc M2 z=some acc∧acc.length<sizeLine∧C σ' (M2.set z (.lst (acc++[y]))) else C σ' M1)
  (fin:∀σ M,I xs.length σ M→Q M):Nv own xs tg cd el z xs σ M Q:=by
 have key:∀(j:Nat) σ M,j≤xs.length→I (xs.length - j) σ M→Nv own xs tg cd el z (xs.drop (xs.length - j)) σ M Q:=by
  intro j
  induction j with
  | zero=>
   intro σ M _ h
   rw[Nat.sub_zero] at h ⊢
   rw[List.drop_length]
   exact⟨hs _ σ M (Nat.le_refl _) h,fin σ M h⟩
  | succ j ih=>
   intro σ M hj h
   have hi:xs.length - (j+1)<xs.length:=by omega
   have e:xs.length - (j+1)+1=xs.length - j:=by omega
   rw[List.drop_eq_getElem_cons hi]
   refine⟨hs _ σ M (by omega) h,step _ _ σ M (fun σ2 M2=>Nv own xs tg cd el z (xs.drop (xs.length - (j+1)+1)) σ2 M2 Q) (List.getElem?_eq_getElem hi) h fun σ2 M2 h2=>?_⟩
   rw[e] at h2 ⊢
   exact ih σ2 M2 (by omega) h2
 have:=key xs.length σ M (Nat.le_refl _) (by rw[Nat.sub_self];exact h0)
 rw[Nat.sub_self] at this
 exact this
theorem mulR{i j:Int}(h1:-(2 ^ 64)<j)(h2:j<2 ^ 64):IntMulOk i j:=CMul.ok (.inr ⟨h1,h2⟩)
theorem mulL{i j:Int}(h1:-(2 ^ 64)<i)(h2:i<2 ^ 64):IntMulOk i j:=CMul.ok (.inl ⟨h1,h2⟩)
theorem Ee{i j:Int}(h1:0<j)(h2:j<2 ^ 64):Z81 i j:=by
 refine⟨by omega,?_⟩
 have h3:j.natAbs<2 ^ 64:=by omega
 exact Nat.lt_trans (Qw h3 (by decide)) (by decide)
theorem Z1{n:Nat}(h:n≤16000000):n≤sizeLine:=by rw[sizeLine_eq];omega
theorem Z6{n:Nat}(h:n≤16000000):n<sizeLine:=by rw[sizeLine_eq];omega
section
variable{M:Z0}{Q:DK}{B:Bool→Prop}{i j:Int}{a b:Str}{p q:Bool}{xs ys:List D}{n m:Nat}{K:PySem.W.Frag}
theorem op_add_i:opD .add (.int i) (.int j) M Q=Q (.int (i+j)) M:=rfl
theorem op_add_s:opD .add (.str a) (.str b) M Q=(a.length+b.length≤sizeLine∧Q (.str (a++b)) M):=rfl
theorem op_add_t:opD .add (.tup xs) (.tup ys) M Q=(xs≠[]∧xs.length+ys.length≤sizeLine∧Q (.tup (xs++ys)) M):=rfl
theorem op_add_l:opD .add (.ref n) (.ref m) M Q=∃xs ys,Zc M n=some xs∧Zc M m=some ys∧xs.length+ys.length≤sizeLine∧Q (.ref M.length) (M++[.lst (xs++ys)]):=rfl
theorem op_sub_i:opD .sub (.int i) (.int j) M Q=Q (.int (i - j)) M:=rfl
theorem op_mul_i:opD .mul (.int i) (.int j) M Q=(IntMulOk i j∧Q (.int (i * j)) M):=rfl
theorem op_mul_l:opD .mul (.ref n) (.int i) M Q=∃xs,Zc M n=some xs∧0≤i∧i<2 ^ 62∧xs.length * i.toNat≤sizeLine∧Q (.ref M.length) (M++[.lst (List.replicate i.toNat xs).flatten]):=rfl
theorem op_fdiv_i:opD .fdiv (.int i) (.int j) M Q=(Z81 i j∧Q (.int (qdiv i j)) M):=rfl
theorem op_mod_i:opD .mod (.int i) (.int j) M Q=(j≠0∧Q (.int (qmod i j)) M):=rfl
theorem op_pow_i:opD .pow (.int i) (.int j) M Q=(CPow i j∧Q (.int (i ^ j.toNat)) M):=rfl
theorem op_and_i:opD .band (.int i) (.int j) M Q=Q (.int (Builtin.bitAnd i j)) M:=rfl
theorem op_xor_i:opD .bxor (.int i) (.int j) M Q=Q (.int (Builtin.bitXor i j)) M:=rfl
theorem cm_lt_i:cmD M .lt (.int i) (.int j) B=B (decide (i<j)):=rfl
theorem cm_le_i:cmD M .le (.int i) (.int j) B=B (decide (i≤j)):=rfl
theorem cm_gt_i:cmD M .gt (.int i) (.int j) B=B (decide (j<i)):=rfl
theorem cm_ge_i:cmD M .ge (.int i) (.int j) B=B (decide (j≤i)):=rfl
theorem cm_eq{x y:D}:cmD M .eq x y B=eqD M x y B:=rfl
theorem cm_ne{x y:D}:cmD M .ne x y B=eqD M x y fun b=>B (!b):=rfl
theorem cm_in{x y:D}:cmD M .isin x y B=inQ M x y B:=rfl
theorem cm_notin{x y:D}:cmD M .notin x y B=inQ M x y fun b=>B (!b):=rfl
theorem cm_is_n:cmD M .is .non .non B=B true:=rfl
theorem cm_is_i:cmD M .is (.int i) .non B=B false:=rfl
theorem cm_is_s:cmD M .is (.str a) .non B=B false:=rfl
theorem cm_is_b:cmD M .is (.bl p) .non B=B false:=rfl
theorem cm_is_t:cmD M .is (.tup xs) .non B=B false:=rfl
theorem cm_is_r:cmD M .is (.ref n) .non B=B false:=rfl
theorem eq_i:eqD M (.int i) (.int j) B=B (decide (i=j)):=rfl
theorem eq_s:eqD M (.str a) (.str b) B=B (decide (a=b)):=rfl
theorem eq_b:eqD M (.bl p) (.bl q) B=B (decide (p=q)):=rfl
theorem eq_nn:eqD M .non .non B=B true:=rfl
theorem eq_is:eqD M (.int i) (.str b) B=B false:=rfl
theorem eq_si:eqD M (.str b) (.int i) B=B false:=rfl
theorem tru_b:truD M (.bl p) B=B p:=rfl
theorem tru_i:truD M (.int i) B=B (i !=0):=rfl
theorem tru_n:truD M .non B=B false:=rfl
theorem tru_t:truD M (.tup xs) B=B (!xs.isEmpty):=rfl
theorem ix_t{F:D→Prop}:ixD M (.tup xs) (.int i) F=∃d,atI xs i=some d∧F d:=rfl
theorem ix_g{F:D→Prop}:ixD M (.gtup xs) (.int i) F=∃d,atI xs i=some d∧F d:=rfl
theorem ix_s{F:D→Prop}:ixD M (.str a) (.int i) F=(a.length≤sizeLine∧∃c,atI a.cps.toList i=some c∧F (.str ⟨#[c]⟩)):=rfl
theorem ix_l{F:D→Prop}{k:Nat}(h:Za M n=some xs){d:D}(hd:xs[k]?=some d)(hF:F d):ixD M (.ref n) (.int k) F:= .inl ⟨xs,k,d,rfl,h,Ps hd,hF⟩
theorem Y65{F:D→Prop}(h:Za M n=some xs){d:D}(hd:atI xs i=some d)(hF:F d):ixD M (.ref n) (.int i) F:= .inl ⟨xs,i,d,rfl,h,hd,hF⟩
theorem ix_d{F:D→Prop}{kvs:List (Key×D)}{k:D}{y:Key}(h:Zd M n=some kvs)(hk:keyD k=some y){d:D}(hd:valD kvs y=some d)(hF:F d):ixD M (.ref n) k F:= .inr ⟨kvs,y,d,Zm5 h,hk,hd,hF⟩
theorem sl_s{lo hi:Option Int}:slD (.str a) lo hi M Q=(a.length≤sizeLine∧Q (.str (Txt.slice a lo hi)) M):=rfl
theorem sl_t{lo hi:Option Int}:slD (.tup xs) lo hi M Q=(¬(HT.sIx xs.length 0 lo=0∧HT.sIx xs.length xs.length hi=xs.length)∧Q (.tup (cutD xs lo hi)) M):=rfl
theorem sl_l{lo hi:Option Int}:slD (.ref n) lo hi M Q=∃xs,Za M n=some xs∧Q (.ref M.length) (M++[.lst (cutD xs lo hi)]):=rfl
noncomputable def tyNon:Ty→Bool:=fun _=>false
noncomputable def tyBl:Ty→Bool
 | .bool=>true | .int=>true | _=>false
noncomputable def tyInt:Ty→Bool
 | .int=>true | _=>false
noncomputable def tyStr:Ty→Bool
 | .str=>true | _=>false
noncomputable def tyTup:Ty→Bool
 | .tuple=>true | _=>false
noncomputable def tyLst:Ty→Bool
 | .list=>true | _=>false
noncomputable def tyDct:Ty→Bool
 | .dict=>true | _=>false
theorem Rb{d:D}{t:Ty}{s:String}{v:Bool}(hd:∀e C dx r,d≠ .exn e C dx r)(h1:tyD M d=some s)(h2:PySem.W.kitOne K (.type s) (.type (Xa t))=some v):isD K M d (.ty (Xa t)) B=B v:=by
 have:isD K M d (.ty (Xa t)) B=∃t' b,tyD M d=some t'∧PySem.W.kitOne K (.type t') (.type (Xa t))=some b∧B b:=by
  cases d<;>first | rfl | exact absurd rfl (hd _ _ _ _)
 rw[this]
 apply propext
 constructor
 ·rintro⟨t',b,e1,e2,h⟩
  rw[h1] at e1
  cases e1
  rw[h2] at e2
  cases e2
  exact h
 ·intro h;exact⟨s,v,h1,h2,h⟩
theorem is_non{t:Ty}:isD K M .non (.ty (Xa t)) B=B (tyNon t):=Rb (fun _ _ _ _ h=>nomatch h) rfl (by cases t<;>rfl)
theorem is_bl{t:Ty}:isD K M (.bl p) (.ty (Xa t)) B=B (tyBl t):=Rb (fun _ _ _ _ h=>nomatch h) rfl (by cases t<;>rfl)
theorem is_int{t:Ty}:isD K M (.int i) (.ty (Xa t)) B=B (tyInt t):=Rb (fun _ _ _ _ h=>nomatch h) rfl (by cases t<;>rfl)
theorem is_str{t:Ty}:isD K M (.str a) (.ty (Xa t)) B=B (tyStr t):=Rb (fun _ _ _ _ h=>nomatch h) rfl (by cases t<;>rfl)
theorem is_tup{t:Ty}:isD K M (.tup xs) (.ty (Xa t)) B=B (tyTup t):=Rb (fun _ _ _ _ h=>nomatch h) rfl (by cases t<;>rfl)
theorem Zj0{t:Ty}(h:Zc M n=some xs):isD K M (.ref n) (.ty (Xa t)) B=B (tyLst t):=Rb (s:="list") (fun _ _ _ _ h=>nomatch h) (by simp only[tyD,Of h]) (by cases t<;>rfl)
theorem Zw2{t:Ty}{kvs:List (Key×D)}(h:Zd M n=some kvs):isD K M (.ref n) (.ty (Xa t)) B=B (tyDct t):=Rb (s:="dict") (fun _ _ _ _ h=>nomatch h) (by simp only[tyD,S9 h]) (by cases t<;>rfl)
theorem Yu(h:Za M n=some xs)(hq:Q (.int xs.length) M):bfD K .len [.ref n] M Q:= .inl ⟨xs,h,hq⟩
theorem bf_len_t:bfD K .len [.tup xs] M Q=Q (.int xs.length) M:=rfl
theorem bf_len_s:bfD K .len [.str a] M Q=(a.length≤sizeLine∧Q (.int a.length) M):=rfl
theorem bf_is{d c:D}:bfD K .isinst [d,c] M Q=isD K M d c fun b=>Q (.bl b) M:=rfl
theorem bf_min:bfD K .min2 [.int i,.int j] M Q=Q (.int (if j<i then j else i)) M:=rfl
theorem bf_max:bfD K .max2 [.int i,.int j] M Q=Q (.int (if j >i then j else i)) M:=rfl
theorem bf_list{d:D}:bfD K .list1 [d] M Q=∃xs,Z01 M d=some xs∧Q (.ref M.length) (M++[.lst xs]):=rfl
theorem bf_tuple:bfD K .tuple1 [.ref n] M Q=∃xs,Za M n=some xs∧Q (.tup xs) M:=rfl
theorem bf_dict:bfD K .dict1 [.ref n] M Q=((∃xs,Zd M n=some xs∧Q (.ref M.length) (M++[.dct xs]))∨(∃ps:List (Key×D),Za M n=some (Xv ps)∧ps.length<sizeLine∧Q (.ref M.length) (M++[.dct (Vi ps)]))):=rfl
theorem at2_xy{x y:D}{F:D→D→Prop}:at2 [x,y] F=F x y:=rfl
theorem onRef_r{F:Nat→Prop}:Q8 (.ref n) F=F n:=rfl
theorem bf_sorted:bfD K .sorted1 [.ref n] M Q=∃(kvs:List (Key×D)) (ns:List Str),Zd M n=some kvs∧kvs.map (·.1)=ns.map Sum.inr∧ns.length<64∧∀ms:List Str,ms.Perm ns→sortedS ms=true→Q (.ref M.length) (M++[.lst (ms.map .str)]):=rfl
theorem mt_append_r{d:D}:mtD .append (.ref n) [d] M Q=∃xs,Zc M n=some xs∧xs.length<sizeLine∧Q .non (M.set n (.lst (xs++[d]))):=rfl
theorem mt_clearD_r:mtD .clearD (.ref n) [] M Q=∃kvs,Zd M n=some kvs∧Q .non (M.set n (.dct [])):=rfl
theorem mt_get2_r{k z:D}:mtD .get2 (.ref n) [k,z] M Q=∃kvs y,Zd M n=some kvs∧keyD k=some y∧Q ((valD kvs y).getD z) M:=rfl
theorem mt_pop_r:mtD .pop0 (.ref n) [] M Q=∃xs d,Zc M n=some xs∧xs[xs.length - 1]?=some d∧Q d (M.set n (.lst xs.dropLast)):=rfl
theorem mt_reverse_r:mtD .reverse (.ref n) [] M Q=∃xs,Zc M n=some xs∧Q .non (M.set n (.lst xs.reverse)):=rfl
theorem mk_append:mtK .append (.ref n) M=((Za M n).isSome=true):=rfl
theorem mk_pop:mtK .pop0 (.ref n) M=((Za M n).isSome=true):=rfl
theorem mk_reverse:mtK .reverse (.ref n) M=((Za M n).isSome=true):=rfl
theorem mk_clearD:mtK .clearD (.ref n) M=((Zd M n).isSome=true):=rfl
theorem mk_get2:mtK .get2 (.ref n) M=((Zd M n).isSome=true):=rfl
theorem tg_one{k:Nat}{d:D}{σ:DEnv}{F:DEnv→Prop}:tgD [k] d σ F=F (σ.set k (some d)):=by cases d<;>rfl
theorem tg_two{k l:Nat}{d e:D}{σ:DEnv}{F:DEnv→Prop}:tgD [k,l] (.tup [d,e]) σ F=F ((σ.set k (some d)).set l (some e)):=by
 show([d,e].length=[k,l].length∧F _)=_
 simp
theorem it_r{R:Own→List D→Prop}:itD M (.ref n) R=∃xs,Za M n=some xs∧R (.lst n) xs:=rfl
theorem it_t{R:Own→List D→Prop}:itD M (.tup xs) R=R .no xs:=rfl
theorem it_g{R:Own→List D→Prop}:itD M (.gtup xs) R=R .no xs:=rfl
theorem key_i:keyD (.int i)=some (.inl i):=rfl
theorem key_s:keyD (.str a)=some (.inr a):=rfl
theorem in_ss:inQ M (.str a) (.str b) B=B (!(Builtin.Str.occurrences b a 0 b.length 1).isEmpty):=rfl
end
theorem Y8{α:Type}{o:Option α}{x:α}(h:o=some x):o.isSome=true:=by rw[h];rfl
noncomputable abbrev vs4:List Value:=[.type "ValueError",.type "Exception",.type "BaseException",.type "object"]
theorem mro4{K:PySem.W.Frag}{C J:Addr}{nm q:Str}{N:Addr}{bs:List Value}{sn:List Str}{sub:List Value}{ab:Bool}{col:Option Bool}{dd:Option Addr}{k0 k1 k2 k3 k5:Option Value}{nw:String}
  (l:K.lookup C=some (excClassObj nm q C N bs (.ref J::vs4) true sn sub ab col dd k0 k1 k2 k3 k5 nw)):∃cd,PySem.W.clsIn K C=some cd∧cd.hasDict=true∧cd.mro=[.ref C,.ref J]++vs4:=by
 have e:PySem.W.clsIn K C=some {name:=nm,bases:=bs,mro:= .ref C::(.ref J::vs4),ns:=N,qualname:=q,hasDict:=true,slotNames:=sn,subclasses:=sub,abstract:=ab,collection:=col,hasDel:=false}:=by
  unfold PySem.W.clsIn
  rw[l]
 exact⟨_,e,rfl,rfl⟩
theorem E8{K:PySem.W.Frag}{C J f:Addr}{nm q:Str}{N:Addr}{bs:List Value}{sn:List Str}{sub:List Value}{ab:Bool}{col:Option Bool}{dd:Option Addr}{k0 k1 k2 k3 k5:Option Value}
  (l:K.lookup C=some (excClassObj nm q C N bs (.ref J::vs4) true sn sub ab col dd k0 k1 k2 k3 k5 "ValueError.__new__")) (hi:PySem.W.findIn K (.ref C) "__init__"=some (some (.ref f))) (hf:PySem.W.isFn K (.ref f)=true) (hk:PySem.W.keepIn K (.ref C)=true):ExcMk K C f where
 cls:=⟨nm,q,N,bs,_,true,sn,sub,ab,col,dd,k0,k1,k2,k3,k5,l,rfl,rfl,rfl,rfl⟩
 init:=hi
 fn:=hf
 kp:=hk
theorem Oj{K:PySem.W.Frag}{C J:Addr}{nm q:Str}{N:Addr}{bs:List Value}{sn:List Str}{sub:List Value}{ab:Bool}{col:Option Bool}{dd:Option Addr}{k0 k1 k2 k3 k5:Option Value}{nw:String}
  (l:K.lookup C=some (excClassObj nm q C N bs (.ref J::vs4) true sn sub ab col dd k0 k1 k2 k3 k5 nw)) (h1:PySem.W.findIn K (.ref C) "row"=some none) (h2:PySem.W.findIn K (.ref C) "__setattr__"=some (some (.builtin "object.__setattr__"))):ExcSet K C "row" where
 cls:=by
  obtain⟨cd,e1,e2,e3⟩:=mro4 l
  refine⟨cd,[.ref C,.ref J],e1,e2,e3,fun v hv=>?_⟩
  simp only[List.mem_cons,List.not_mem_nil,or_false] at hv
  rcases hv with rfl | rfl
  ·exact⟨_,rfl⟩
  ·exact⟨_,rfl⟩
 no:=h1
 set:=h2
noncomputable def Zc4(st:Stmt):Bool:=match Z5 st with
 | [.Assign [.Attribute (.Name a _) b _] (.Name d _) _]=>a=="self"&&b=="row"&&d=="row"
 | _=>false
theorem Bm{st:Stmt}(h:Zc4 st=true):∃p1 p2 p3 p4,Z5 st=[.Assign [.Attribute (.Name "self" p1) "row" p2] (.Name "row" p3) p4]:=by
 unfold Zc4 at h
 split at h
 ·rename_i a p1 b p2 d p3 p4 e
  simp only[Bool.and_eq_true,beq_iff_eq] at h
  obtain⟨⟨rfl,rfl⟩,rfl⟩:=h
  exact⟨_,_,_,_,e⟩
 ·cases h
theorem Zt4{P:Program}{w:World}{K:PySem.W.Frag}{mg:Str→Option Value}{base:Heap}{st:Stmt}{f:Addr}{name qual:Str}{dV kV doc pm cdv ct oc:Value}{an od:Option Addr}{osl:Array (Option Value)}
  (lk:K.lookup f=some ⟨oc,od,.func (PySem.W.fnOf name qual (Zg st) (Z5 st) (Z2 st) dV kV doc pm an cdv ct),osl⟩) (hcd:PySem.W.codeIn K cdv qual=true) (S:FnScope ["self","row"] ["self","row"] (Z2 st)) (hb:Zc4 st=true)
  (h1:(Z2 st).names.lookup ("self":Str)=some .local) (h2:(Z2 st).names.lookup ("row":Str)=some .local):
  FnOk P w K mg base CX0 1 f (PySem.W.fnOf name qual (Zg st) (Z5 st) (Z2 st) dV kV doc pm an cdv ct) ["self","row"] (Qu K):=by
 refine Zu0 lk hcd S (fun vs H Q E zz144=>by obtain⟨e,C,y,h,_⟩:=zz144;rw[h];rfl) fun A outer s H vs Q E hr hsp=>?_
 obtain⟨e,C,y,rfl,q1,q2,q3⟩:=hsp
 obtain⟨p1,p2,p3,p4,eb⟩:=Bm hb
 rw[eb]
 refine⟨_,Fw (Zx5 (Z43 (i:=0) rfl (.inl h1)) (Z43 (i:=1) rfl (.inl h2)) rfl) Z16,?_⟩
 exact⟨y,rfl,.ref e,rfl,e,C,rfl,q1,q2,fun dx hdx=>q3 dx hdx⟩
theorem Prg.up{P:Program}{w:World}{K:PySem.W.Frag}{mg:Str→Option Value}{base:Heap}{c:Cfg}{FN GN BN:List Str}{lv lv':Nat}(Pr:Prg P w K mg base c FN GN BN lv)(h:lv≤lv'):Prg P w K mg base c FN GN BN lv' where
 hK:=Pr.hK
 kwd:=fun sp e2=>by
  obtain⟨kk,f,fd,ps,F,hk,r⟩:=Pr.kwd sp e2
  exact⟨kk,f,fd,ps,F,Nat.le_trans hk h,r⟩
 fns:=fun m y sp e1 e2=>by
  obtain⟨kk,f,fd,ps,ds,dvs,dD,sp0,F,hk,r⟩:=Pr.fns m y sp e1 e2
  exact⟨kk,f,fd,ps,ds,dvs,dD,sp0,F,Nat.le_trans hk h,r⟩
 flen:=Pr.flen
 glb:=Pr.glb
 blt:=Pr.blt
theorem PrgR.none{P:Program}{w:World}{K:PySem.W.Frag}{mg:Str→Option Value}{base:Heap}{c:Cfg}{lv:Nat}:PrgR P w K mg base c [] lv:=fun _ h=>absurd h Bool.false_ne_true
theorem PrgR.one{P:Program}{w:World}{K:PySem.W.Frag}{mg:Str→Option Value}{base:Heap}{c:Cfg}{lv n:Nat}{B f:Addr}{fd:FuncData}(hn:c.G[n]?=some (.cls B))(h1:ExcMk K B f)(h2:FnOk P w K mg base CX0 1 f fd ["self","row"] (Qu K))(h3:2≤lv)(h4:Zr K fd ["self","row"] [.none])(h5:Zr K fd ["self","row"] [])(h6:ExcSet K B "row"):
  PrgR P w K mg base c [n] lv:=fun g hg C hC=>by
 have e:g=n:=by simpa using hg
 subst e
 rw[hn] at hC
 cases hC
 exact⟨1,f,fd,h1,h2,h3,h4,h5,h6⟩
def Rest(c:Cfg)(X:DX)(r:Ss)(R:DEnds)(σ:DEnv)(M:Z0):Prop:=tss c X r R σ M
theorem tss_nil{c:Cfg}{X:DX}{R:DEnds}{σ:DEnv}{M:Z0}:tss c X .nil R σ M=R.nx σ M:=rfl
theorem tss_cons{c:Cfg}{X:DX}{s:S}{r:Ss}{R:DEnds}{σ:DEnv}{M:Z0}:tss c X (.cons s r) R σ M=ts c X s {R with nx:=fun σ' M'=>Rest c X r R σ' M'} σ M:=rfl
theorem Xd{c:Cfg}{X:DX}{r:Ss}{R:DEnds}{σ:DEnv}{M:Z0}(h:tss c X r R σ M):Rest c X r R σ M:=h
theorem Y23{α:Type}{P:List α→Prop}(h:P [])(l:List α)(e:l.length=0):P l:=by
 cases l with
 | nil=>exact h
 | cons _ _=>cases e
theorem Jb{α:Type}{n:Nat}{P:List α→Prop}(h:∀a l,l.length=n→P (a::l))(l:List α)(e:l.length=n+1):P l:=by
 cases l with
 | nil=>cases e
 | cons a r=>exact h a r (Nat.succ.inj e)
theorem Wq{α:Type}{P:List α→Prop}(h:∀a,P [a]):∀l:List α,l.length=1→P l:=Jb fun a=>Y23 (h a)
theorem Xk{α:Type}{P:List α→Prop}(h:∀a b,P [a,b]):∀l:List α,l.length=2→P l:=Jb fun a=>Wq (P:=fun l=>P (a::l)) (h a)
theorem Sv{α:Type}{P:List α→Prop}(h:∀a b c,P [a,b,c]):∀l:List α,l.length=3→P l:=Jb fun a=>Xk (P:=fun l=>P (a::l)) (h a)
theorem Fo{α:Type}{P:List α→Prop}(h:∀a b c d,P [a,b,c,d]):∀l:List α,l.length=4→P l:=Jb fun a=>Sv (P:=fun l=>P (a::l)) (h a)
theorem Zx6{α:Type}{P:List α→Prop}(h:∀a b c d e,P [a,b,c,d,e]):∀l:List α,l.length=5→P l:=Jb fun a=>Fo (P:=fun l=>P (a::l)) (h a)
theorem Z38{α:Type}{P:α→Prop}:∀x∈([]:List α),P x:=fun _ h=>absurd h List.not_mem_nil
theorem all_cons{α:Type}{P:α→Prop}{a:α}{l:List α}(h:P a)(t:∀x∈l,P x):∀x∈a::l,P x:=fun x hx=>(List.mem_cons.mp hx).elim (fun e=>e ▸ h) (t x)
theorem O9{K:PySem.W.Frag}{fd:FuncData}{ps:List Str}{n:Nat}(h:∀s:Shared,K.In s.heap→∀us:List Value,us.length=n→BindsTo s fd ⟨us,[]⟩ (ps.zip (us++[])))(e:ps.length=n):Zr K fd ps []:=fun s us KX hl=>h s KX us (by rw[List.append_nil,e] at hl;exact hl)
theorem Zo7{K:PySem.W.Frag}{fd:FuncData}{ps:List Str}{n:Nat}(h:∀s:Shared,K.In s.heap→∀(v:Value) (us:List Value),us.length=n→BindsTo s fd ⟨us,[("most",v)]⟩ (ps.zip (us++[v])))(e:ps.length=n+1):KB K fd ps:=fun s us v KX hl=>h s KX v us (by rw[e] at hl;exact Nat.succ.inj hl)
theorem Jn{K:PySem.W.Frag}{fd:FuncData}{ps:List Str}{d:Value}{n:Nat}(h:∀s:Shared,K.In s.heap→∀us:List Value,us.length=n→BindsTo s fd ⟨us,[]⟩ (ps.zip (us++[d])))(e:ps.length=n+1):Zr K fd ps [d]:=fun s us KX hl=>h s KX us (by rw[List.length_append,e] at hl;exact Nat.succ.inj hl)
end U
namespace GT
inductive Av (g:Nat→List Nat) (a:Nat):Nat→Prop
 | zero:a≠0→Av g a 0
 | step {x y:Nat}:Av g a x→y∈g x→y≠a→Av g a y
structure Num(g:Nat→List Nat)(n:Nat):Prop where
 pos:0<n
 cl:∀x,x<n→∀y∈g x,y<n
 up:∀k,k<n→k≠0→∃p,p<k∧k∈g p
structure Must(g:Nat→List Nat)(k m:Nat):Prop where
 ne:m≠k
 dom:¬Av g m k
 last:∀d,d≠k→¬Av g d k→d≤m
structure Wk(g:Nat→List Nat)(n:Nat)(B:List Nat)(T:List (Nat×Nat))(F:List Nat):Prop where
 bn:B.Nodup
 bl:∀x∈B,x<n
 z:0∈B
 mem:∀x,x∈B↔(∃s,(x,s)∈T)∨x∈F
 nd:(T.map (·.1)++F).Nodup
 first:∀p,T[0]?=some p→p.1=0
 chain:∀(i:Nat) p q,T[i]?=some p→T[i+1]?=some q→q.1∈g p.1
 steps:∀a s,(a,s)∈T→s≤(g a).length∧∀j y,j<s→(g a)[j]?=some y→y∈B
 fin:∀d∈F,∀y∈g d,y∈B
 par:∀(i:Nat) x,F[i]?=some x→x≠0→∃p,x∈g p∧p∈B∧p∉F.take (i+1)
theorem E7{α:Type}(T:List α)(p:α):(T++[p])[T.length]?=some p:=by simp
theorem Sj{α:Type}{T:List α}{p q:α}{i:Nat}(h:T[i]?=some q):(T++[p])[i]?=some q:=by
 rw[List.getElem?_append_left (List.getElem?_eq_some_iff.mp h).1];exact h
theorem Xs{α:Type}{T:List α}{p q:α}{i:Nat}(h:(T++[p])[i]?=some q):T[i]?=some q∨(i=T.length∧q=p):=by
 by_cases hi:i<T.length
 ·rw[List.getElem?_append_left hi] at h;exact .inl h
 ·rw[List.getElem?_append_right (by omega)] at h
  have h':=(List.getElem?_eq_some_iff.mp h).1
  simp at h'
  have e:i - T.length=0:=by omega
  rw[e] at h
  simp at h
  exact .inr ⟨by omega,h.symm⟩
theorem Wk.open{g:Nat→List Nat}{n a s y:Nat}{B F:List Nat}{T:List (Nat×Nat)}(w:Wk g n B (T++[(a,s)]) F)(hy:(g a)[s]?=some y)(hn:y<n)(hb:y∉B):Wk g n (B++[y]) (T++[(a,s+1),(y,0)]) F where
 bn:=by
  rw[List.nodup_append]
  refine⟨w.bn,by simp,fun x hx z hz=>?_⟩
  simp at hz
  subst hz
  exact fun e=>hb (e ▸ hx)
 bl:=by
  intro x hx
  rcases List.mem_append.mp hx with h | h
  ·exact w.bl x h
  ·simp at h;omega
 z:=List.mem_append_left _ w.z
 mem:=by
  intro x
  rw[List.mem_append,w.mem x]
  simp only[List.mem_append,List.mem_singleton,List.mem_cons,Prod.mk.injEq,List.not_mem_nil,or_false]
  constructor
  ·rintro((⟨s',h | ⟨rfl,rfl⟩⟩ | h) | rfl)
   ·exact .inl ⟨s',.inl h⟩
   ·exact .inl ⟨s'+1,.inr (.inl ⟨rfl,rfl⟩)⟩
   ·exact .inr h
   ·exact .inl ⟨0,.inr (.inr ⟨rfl,rfl⟩)⟩
  ·rintro(⟨s',h | ⟨rfl,rfl⟩ | ⟨rfl,rfl⟩⟩ | h)
   ·exact .inl (.inl ⟨s',.inl h⟩)
   ·exact .inl (.inl ⟨s,.inr ⟨rfl,rfl⟩⟩)
   ·exact .inr rfl
   ·exact .inl (.inr h)
 nd:=by
  have h1:=w.nd
  have h2:y∉(T++[(a,s)]).map (·.1)++F:=by
   intro h
   apply hb
   rw[w.mem y]
   rcases List.mem_append.mp h with h | h
   ·obtain⟨⟨b,t⟩,hp,e⟩:=List.mem_map.mp h
    simp at e
    subst e
    exact .inl ⟨t,hp⟩
   ·exact .inr h
  have p:((T++[(a,s+1),(y,0)]).map (·.1)++F).Perm (y::((T++[(a,s)]).map (·.1)++F)):=by
   simp only[List.map_append,List.map_cons,List.map_nil,List.append_assoc,List.cons_append,List.nil_append]
   have q:=List.perm_middle (a:=y) (l₁:=List.map (fun x=>x.1) T++[a]) (l₂:=F)
   simpa only[List.append_assoc,List.cons_append,List.nil_append] using q
  exact p.nodup_iff.mpr (List.nodup_cons.mpr ⟨h2,h1⟩)
 first:=by
  intro p h
  have:T++[(a,s+1),(y,0)]=(T++[(a,s+1)])++[(y,0)]:=by simp
  rw[this] at h
  rcases Xs h with h | ⟨e,rfl⟩
  ·rcases Xs h with h | ⟨e,rfl⟩
   ·exact w.first p (Sj h)
   ·exact w.first (a,s) (by rw[e];exact E7 _ _)
  ·simp at e
 chain:=by
  intro i p q h1 h2
  have:T++[(a,s+1),(y,0)]=(T++[(a,s+1)])++[(y,0)]:=by simp
  rw[this] at h1 h2
  rcases Xs h2 with h2 | ⟨e,rfl⟩
  ·rcases Xs h1 with h1 | ⟨e1,rfl⟩
   ·rcases Xs h2 with h2 | ⟨e,rfl⟩
    ·rcases Xs h1 with h1 | ⟨e1,rfl⟩
     ·exact w.chain i p q (Sj h1) (Sj h2)
     ·have:=(List.getElem?_eq_some_iff.mp h2).1
      omega
    ·rcases Xs h1 with h1 | ⟨e1,rfl⟩
     ·exact w.chain i p (a,s) (Sj h1) (by rw[e];exact E7 _ _)
     ·omega
   ·have:=(List.getElem?_eq_some_iff.mp h2).1
    omega
  ·rcases Xs h1 with h1 | ⟨e1,rfl⟩
   ·rcases Xs h1 with h1 | ⟨e1,rfl⟩
    ·have:=(List.getElem?_eq_some_iff.mp h1).1
     simp at e
     omega
    ·exact List.mem_of_getElem? hy
   ·omega
 steps:=by
  intro b t h
  simp only[List.mem_append,List.mem_cons,List.not_mem_nil,or_false,Prod.mk.injEq] at h
  rcases h with h | ⟨rfl,rfl⟩ | ⟨rfl,rfl⟩
  ·obtain⟨h1,h2⟩:=w.steps b t (List.mem_append_left _ h)
   exact⟨h1,fun j z hj hz=>List.mem_append_left _ (h2 j z hj hz)⟩
  ·obtain⟨h1,h2⟩:=w.steps b s (by simp)
   refine⟨(List.getElem?_eq_some_iff.mp hy).1,fun j z hj hz=>?_⟩
   by_cases e:j=s
   ·subst e;rw[hy] at hz;cases hz;simp
   ·exact List.mem_append_left _ (h2 j z (by omega) hz)
  ·exact⟨Nat.zero_le _,fun j y h=>by omega⟩
 fin:=fun d h z hz=>List.mem_append_left _ (w.fin d h z hz)
 par:=by
  intro i x h hx
  obtain⟨p,h1,h2,h3⟩:=w.par i x h hx
  exact⟨p,h1,List.mem_append_left _ h2,h3⟩
structure Ord(g:Nat→List Nat)(n:Nat)(O:List Nat):Prop where
 nd:O.Nodup
 lt:∀x∈O,x<n
 z:O[0]?=some 0
 cl:∀x∈O,∀y∈g x,y∈O
 up:∀(k:Nat) x,O[k]?=some x→k≠0→∃(j:Nat) (p:Nat),j<k∧O[j]?=some p∧x∈g p
structure Fd(g:Nat→List Nat)(n a:Nat)(L:List Nat)(t:Nat):Prop where
 nd:L.Nodup
 z:L[0]?=some 0
 av:∀x∈L,Av g a x
 done:∀(i:Nat) x,i<t→L[i]?=some x→∀y∈g x,y=a∨y∈L
 le:t≤L.length
theorem Fd.all{g:Nat→List Nat}{n a t:Nat}{L:List Nat}(f:Fd g n a L t)(ht:L.length≤t)(x:Nat):x∈L↔Av g a x:=by
 refine⟨f.av x,fun h=>?_⟩
 induction h with
 | zero _=>exact List.mem_of_getElem? f.z
 | step _ hy hn ih=>
  obtain⟨i,hi⟩:=List.getElem?_of_mem ih
  rcases f.done i _ (by have:=(List.getElem?_eq_some_iff.mp hi).1;omega) hi _ hy with e | e
  ·exact absurd e hn
  ·exact e
end GT
namespace ND
structure St where
 b:List Nat
 s:List (Nat×List Nat)
 d:List Nat
noncomputable def stp(g:Nat→List Nat):St→St
 | ⟨b,[],d⟩=>⟨b,[],d⟩
 | ⟨b,(x,[])::s,d⟩=>⟨b,s,d++[x]⟩
 | ⟨b,(x,t::r)::s,d⟩=>if t∈b then⟨b,(x,r)::s,d⟩ else⟨b++[t],(t,g t)::(x,r)::s,d⟩
noncomputable def itr(g:Nat→List Nat):Nat→St→St
 | 0,s=>s
 | k+1,s=>stp g (itr g k s)
def Ends(g:Nat→List Nat)(x:Nat)(d:List Nat):Prop:=∃k b,itr g k ⟨[x],[(x,g x)],[]⟩=⟨b,[],d⟩
noncomputable def mp(π:Nat→Nat)(s:St):St:=⟨s.b.map π,s.s.map fun p=>(π p.1,p.2.map π),s.d.map π⟩
structure In(S:Nat→Prop)(z:St):Prop where
 b:∀x∈z.b,S x
 s:∀p∈z.s,S p.1∧∀t∈p.2,S t
 d:∀x∈z.d,S x
theorem In.stp{g:Nat→List Nat}{S:Nat→Prop}(cl:∀x,S x→∀t∈g x,S t){s:St}(h:In S s):In S (stp g s):=by
 obtain⟨b,s,d⟩:=s
 cases s with
 | nil=>exact h
 | cons p s=>
  obtain⟨x,r⟩:=p
  have hx:=h.s (x,r) List.mem_cons_self
  cases r with
  | nil=>exact⟨h.b,fun p hp=>h.s p (List.mem_cons_of_mem _ hp),fun y hy=>(List.mem_append.mp hy).elim (h.d y) fun z=>by rw[List.mem_singleton] at z;subst z;exact hx.1⟩
  | cons t r=>
   show In S (if t∈b then _ else _)
   split
   ·refine⟨h.b,fun p hp=>?_,h.d⟩
    rcases List.mem_cons.mp hp with rfl | hp
    ·exact⟨hx.1,fun u hu=>hx.2 u (List.mem_cons_of_mem _ hu)⟩
    ·exact h.s p (List.mem_cons_of_mem _ hp)
   ·have ht:=hx.2 t List.mem_cons_self
    refine⟨fun y hy=>(List.mem_append.mp hy).elim (h.b y) fun z=>by rw[List.mem_singleton] at z;subst z;exact ht,fun p hp=>?_,h.d⟩
    rcases List.mem_cons.mp hp with rfl | hp
    ·exact⟨ht,cl t ht⟩
    ·rcases List.mem_cons.mp hp with rfl | hp
     ·exact⟨hx.1,fun u hu=>hx.2 u (List.mem_cons_of_mem _ hu)⟩
     ·exact h.s p (List.mem_cons_of_mem _ hp)
theorem Zv8{g g':Nat→List Nat}{S:Nat→Prop}{π:Nat→Nat}(inj:∀x y,S x→S y→π x=π y→x=y)(hg:∀x,S x→g' (π x)=(g x).map π){s:St}(h:In S s):stp g' (mp π s)=mp π (stp g s):=by
 obtain⟨b,s,d⟩:=s
 cases s with
 | nil=>rfl
 | cons p s=>
  obtain⟨x,r⟩:=p
  have hx:=h.s (x,r) List.mem_cons_self
  cases r with
  | nil=>show St.mk (b.map π) _ (d.map π++[π x])=St.mk (b.map π) _ ((d++[x]).map π);rw[List.map_append];rfl
  | cons t r=>
   have ht:=hx.2 t List.mem_cons_self
   have e:π t∈b.map π↔t∈b:=by
    constructor
    ·intro z
     obtain⟨y,hy,e⟩:=List.mem_map.mp z
     rw[←inj y t (h.b y hy) ht e];exact hy
    ·exact fun z=>List.mem_map.mpr ⟨t,z,rfl⟩
   show(if π t∈b.map π then _ else _)=mp π (if t∈b then _ else _)
   by_cases hb:t∈b
   ·rw[if_pos (e.mpr hb),if_pos hb];rfl
   ·rw[if_neg (fun z=>hb (e.mp z)),if_neg hb]
    show St.mk (b.map π++[π t]) ((π t,g' (π t))::_) (d.map π)=St.mk ((b++[t]).map π) ((π t,(g t).map π)::_) (d.map π)
    rw[List.map_append,hg t ht];rfl
theorem Zj7{g g':Nat→List Nat}{S:Nat→Prop}{π:Nat→Nat}(cl:∀x,S x→∀t∈g x,S t)(inj:∀x y,S x→S y→π x=π y→x=y)(hg:∀x,S x→g' (π x)=(g x).map π){s:St}(h:In S s):∀k,itr g' k (mp π s)=mp π (itr g k s)∧In S (itr g k s)
 | 0=>⟨rfl,h⟩
 | k+1=>by
  obtain⟨h1,h2⟩:=Zj7 cl inj hg h k
  exact⟨by show stp g' (itr g' k (mp π s))=mp π (stp g (itr g k s));rw[h1,Zv8 inj hg h2],h2.stp cl⟩
theorem Ends.map{g g':Nat→List Nat}{S:Nat→Prop}{π:Nat→Nat}{x:Nat}{d:List Nat}(cl:∀x,S x→∀t∈g x,S t)(inj:∀x y,S x→S y→π x=π y→x=y)(hg:∀x,S x→g' (π x)=(g x).map π)(hx:S x)(h:Ends g x d):Ends g' (π x) (d.map π):=by
 obtain⟨k,b,h⟩:=h
 have i0:In S ⟨[x],[(x,g x)],[]⟩:=⟨fun y hy=>by rw[List.mem_singleton] at hy;subst hy;exact hx,fun p hp=>by rw[List.mem_singleton] at hp;subst hp;exact⟨hx,cl x hx⟩,fun y hy=>by simp at hy⟩
 have:=(Zj7 cl inj hg i0 k).1
 rw[h] at this
 refine⟨k,b.map π,?_⟩
 rw[hg x hx]
 exact this
structure Ok(g:Nat→List Nat)(x:Nat)(s:St):Prop where
 nb:s.b.Nodup
 nd:(s.s.map (·.1)++s.d).Nodup
 eq:∀y,y∈s.b↔y∈s.s.map (·.1)∨y∈s.d
 cl:∀y∈s.d,∀t∈g y,t∈s.b
 op:∀p∈s.s,(∀t∈p.2,t∈g p.1)∧∀t∈g p.1,t∈p.2∨t∈s.b
 bot:s.s.getLast?.map (·.1)=some x∨(s.s=[]∧s.d.getLast?=some x)
theorem Ok.begin(g:Nat→List Nat)(x:Nat):Ok g x ⟨[x],[(x,g x)],[]⟩ where
 nb:=by simp
 nd:=by simp
 eq:=by simp
 cl:=by simp
 op:=by
  intro p hp
  rw[List.mem_singleton] at hp
  subst hp
  exact⟨fun t h=>h,fun t h=> .inl h⟩
 bot:= .inl rfl
theorem Ok.stp{g:Nat→List Nat}{x:Nat}{s:St}(h:Ok g x s):Ok g x (stp g s):=by
 obtain⟨b,s,d⟩:=s
 cases s with
 | nil=>exact h
 | cons p s=>
  obtain⟨y,r⟩:=p
  obtain⟨h1,h2,h3,h4,h5,h6⟩:=h
  simp only[List.map_cons] at h2 h3 h4 h5 h6
  cases r with
  | nil=>
   show Ok g x ⟨b,s,d++[y]⟩
   refine⟨h1,?_,fun z=>?_,fun z hz t ht=>?_,fun p hp=>h5 p (List.mem_cons_of_mem _ hp),?_⟩
   ·show(s.map (·.1)++(d++[y])).Nodup
    rw[←List.append_assoc]
    have h2':(y::(s.map (·.1)++d)).Nodup:=h2
    rw[List.nodup_cons] at h2'
    exact List.nodup_append.mpr ⟨h2'.2,by simp,fun a ha c hc=>by rw[List.mem_singleton] at hc;subst hc;exact fun e=>h2'.1 (e ▸ ha)⟩
   ·show z∈b↔z∈s.map (·.1)∨z∈d++[y]
    rw[h3 z]
    simp only[List.mem_cons,List.mem_append,List.not_mem_nil,or_false]
    constructor
    ·rintro((h | h) | h)
     ·exact .inr (.inr h)
     ·exact .inl h
     ·exact .inr (.inl h)
    ·rintro(h | h | h)
     ·exact .inl (.inr h)
     ·exact .inr h
     ·exact .inl (.inl h)
   ·rcases List.mem_append.mp hz with hz | hz
    ·exact h4 z hz t ht
    ·rw[List.mem_singleton] at hz
     subst hz
     exact((h5 (z,[]) List.mem_cons_self).2 t ht).resolve_left (by simp)
   ·cases s with
    | nil=>
     refine .inr ⟨rfl,?_⟩
     rcases h6 with h6 | ⟨h6,_⟩
     ·show(d++[y]).getLast?=some x
      rw[List.getLast?_append]
      simpa using h6
     ·cases h6
    | cons q s=>
     refine .inl ?_
     rcases h6 with h6 | ⟨h6,_⟩
     ·show(q::s).getLast?.map (·.1)=some x
      rw[List.getLast?_cons_cons] at h6
      exact h6
     ·cases h6
  | cons t r=>
   have hy:=h5 (y,t::r) List.mem_cons_self
   show Ok g x (if t∈b then⟨b,(y,r)::s,d⟩ else⟨b++[t],(t,g t)::(y,r)::s,d⟩)
   split
   ·rename_i hb
    refine⟨h1,h2,h3,h4,fun p hp=>?_,?_⟩
    ·rcases List.mem_cons.mp hp with rfl | hp
     ·refine⟨fun u hu=>hy.1 u (List.mem_cons_of_mem _ hu),fun u hu=>?_⟩
      rcases hy.2 u hu with z | z
      ·rcases List.mem_cons.mp z with rfl | z
       ·exact .inr hb
       ·exact .inl z
      ·exact .inr z
     ·exact h5 p (List.mem_cons_of_mem _ hp)
    ·rcases h6 with h6 | ⟨h6,_⟩
     ·refine .inl ?_
      cases s with
      | nil=>exact h6
      | cons q s=>rw[List.getLast?_cons_cons] at h6 ⊢;exact h6
     ·cases h6
   ·rename_i hb
    have hn:¬(t=y∨t∈s.map (·.1))∧t∉d:=by
     have:=fun z=>hb ((h3 t).mpr z)
     simp only[List.mem_cons] at this
     exact⟨fun z=>this (.inl z),fun z=>this (.inr z)⟩
    refine⟨?_,?_,fun z=>?_,fun z hz u hu=>List.mem_append_left _ (h4 z hz u hu),fun p hp=>?_,?_⟩
    ·exact List.nodup_append.mpr ⟨h1,by simp,fun a ha c hc=>by rw[List.mem_singleton] at hc;subst hc;exact fun e=>hb (e ▸ ha)⟩
    ·show(t::(y::s.map (·.1)++d)).Nodup
     rw[List.nodup_cons]
     refine⟨fun z=>?_,h2⟩
     rcases List.mem_append.mp z with z | z
     ·exact hn.1 (List.mem_cons.mp z)
     ·exact hn.2 z
    ·show z∈b++[t]↔z∈t::y::s.map (·.1)∨z∈d
     rw[List.mem_append,h3 z,List.mem_singleton,List.mem_cons (a:=z) (b:=t)]
     constructor
     ·rintro((h | h) | h)
      ·exact .inl (.inr h)
      ·exact .inr h
      ·exact .inl (.inl h)
     ·rintro((h | h) | h)
      ·exact .inr h
      ·exact .inl (.inl h)
      ·exact .inl (.inr h)
    ·rcases List.mem_cons.mp hp with rfl | hp
     ·exact⟨fun u hu=>hu,fun u hu=> .inl hu⟩
     ·rcases List.mem_cons.mp hp with rfl | hp
      ·refine⟨fun u hu=>hy.1 u (List.mem_cons_of_mem _ hu),fun u hu=>?_⟩
       rcases hy.2 u hu with z | z
       ·rcases List.mem_cons.mp z with rfl | z
        ·exact .inr (List.mem_append_right _ (by simp))
        ·exact .inl z
       ·exact .inr (List.mem_append_left _ z)
      ·obtain⟨a1,a2⟩:=h5 p (List.mem_cons_of_mem _ hp)
       exact⟨a1,fun u hu=>(a2 u hu).imp id (List.mem_append_left _)⟩
    ·rcases h6 with h6 | ⟨h6,_⟩
     ·refine .inl ?_
      rw[List.getLast?_cons_cons]
      cases s with
      | nil=>exact h6
      | cons q s=>rw[List.getLast?_cons_cons] at h6 ⊢;exact h6
     ·cases h6
theorem Ok.itr{g:Nat→List Nat}{x:Nat}{s:St}(h:Ok g x s):∀k,Ok g x (itr g k s)
 | 0=>h
 | k+1=>(Ok.itr h k).stp
theorem Ends.facts{g:Nat→List Nat}{x:Nat}{d:List Nat}(h:Ends g x d):d.Nodup∧(∀y∈d,∀t∈g y,t∈d)∧d.getLast?=some x:=by
 obtain⟨k,b,h⟩:=h
 have o:=(Ok.begin g x).itr k
 rw[h] at o
 have e:∀y,y∈b↔y∈d:=fun y=>by have:=o.eq y;simpa using this
 refine⟨by simpa using o.nd,fun y hy t ht=>(e t).mp (o.cl y hy t ht),?_⟩
 rcases o.bot with z | ⟨_,z⟩
 ·cases z
 ·exact z
theorem Xi(N:Nat)(l:List Nat)(nd:l.Nodup)(h:∀x∈l,x<N):l.length≤N:=by
 have:l.length≤(List.range N).length:=List.Nodup.length_le_of_subset nd (fun x hx=>List.mem_range.mpr (h x hx))
 simpa using this
noncomputable def mea(N:Nat)(z:St):Nat:=3 * (N - z.b.length)+(z.s.map fun p=>p.2.length+1).sum
theorem Zr5{g:Nat→List Nat}{x N:Nat}{z:St}(ok:Ok g x z)(i:In (· <N) z)(two:∀y,(g y).length≤2)(h:z.s≠[]):mea N (stp g z)<mea N z:=by
 obtain⟨b,s,d⟩:=z
 cases s with
 | nil=>exact absurd rfl h
 | cons p s=>
  obtain⟨y,r⟩:=p
  cases r with
  | nil=>show mea N ⟨b,s,d++[y]⟩<_;unfold mea;simp
  | cons t r=>
   show mea N (if t∈b then⟨b,(y,r)::s,d⟩ else⟨b++[t],(t,g t)::(y,r)::s,d⟩)<_
   split
   ·unfold mea;simp
   ·rename_i hb
    have hl:(b++[t]).length≤N:=Xi N (b++[t]) (List.nodup_append.mpr ⟨ok.nb,by simp,fun a ha c hc=>by rw[List.mem_singleton] at hc;subst hc;exact fun e=>hb (e ▸ ha)⟩) fun u hu=>by
     rcases List.mem_append.mp hu with hu | hu
     ·exact i.b u hu
     ·rw[List.mem_singleton] at hu;subst hu;exact(i.s (y,u::r) List.mem_cons_self).2 u List.mem_cons_self
    rw[List.length_append,List.length_singleton] at hl
    have:=two t
    unfold mea
    simp only[List.length_append,List.length_singleton,List.map_cons,List.sum_cons,List.length_cons]
    omega
end ND
namespace LN
inductive Orb (J:Nat→Option Nat):Nat→Nat→Prop
 | refl (p:Nat):Orb J p p
 | step {p q r:Nat}:J p=some q→Orb J q r→Orb J p r
theorem Orb.trans{J:Nat→Option Nat}{p q r:Nat}(h:Orb J p q)(g:Orb J q r):Orb J p r:=by
 induction h with
 | refl _=>exact g
 | step e _ ih=>exact .step e (ih g)
def Ln(J:Nat→Option Nat)(n:Nat)(m:Nat→Option Nat):Prop:=∀p g,m p=some g→p<n∧(J p=none→g=p)∧(∀q,J p=some q→m q=some g)∧Orb J p g
def Lk(J:Nat→Option Nat):Nat→List Nat→Nat→Prop
 | s,[],p=>s=p
 | s,x::r,p=>s=x∧∃q,J x=some q∧Lk J q r p
theorem Lk.snoc{J:Nat→Option Nat}{p q:Nat}(e:J p=some q):∀{s:Nat} {P:List Nat},Lk J s P p→Lk J s (P++[p]) q
 | s,[],h=>⟨h,q,e,rfl⟩
 | s,x::r,⟨h1,t,h2,h3⟩=>⟨h1,t,h2,Lk.snoc e h3⟩
theorem Lk.next{J:Nat→Option Nat}:∀{s p:Nat} {P:List Nat},Lk J s P p→∀x∈P,∃q,J x=some q∧(q∈P∨q=p)∧Orb J x p
 | s,p,[],h,x,hx=>by cases hx
 | s,p,y::r,h,x,hx=>by
  obtain⟨rfl,t,h2,h3⟩:=h
  have ho:Orb J t p:=by
   cases r with
   | nil=>rw[show t=p from h3];exact .refl _
   | cons z r=>
    obtain⟨_,_,_,h⟩:=Lk.next h3 z List.mem_cons_self
    rw[h3.1];exact h
  rcases List.mem_cons.mp hx with rfl | hx
  ·refine⟨t,h2,?_,.step h2 ho⟩
   cases r with
   | nil=>exact .inr h3
   | cons z r=>exact .inl (List.mem_cons_of_mem _ (by rw[h3.1];exact List.mem_cons_self))
  ·obtain⟨q,a1,a2,a3⟩:=Lk.next h3 x hx
   exact⟨q,a1,a2.imp (List.mem_cons_of_mem _) id,a3⟩
noncomputable def land(m:Nat→Option Nat)(P:List Nat)(p g:Nat):Nat→Option Nat:=fun x=>if x∈P then some g else if x=p then some g else m x
theorem Ln.land{J:Nat→Option Nat}{n s p:Nat}{m:Nat→Option Nat}{P:List Nat}(h:Ln J n m)(k:Lk J s P p)(hn:∀x∈P,x<n∧m x=none)(hp:p<n)
  (stop:(m p).isSome=true∨p∈P∨J p=none):Ln J n (land m P p ((m p).getD p))∧(land m P p ((m p).getD p) s).isSome=true∧∀x,(m x).isSome=true→(land m P p ((m p).getD p) x).isSome=true:=by
 have og:Orb J p ((m p).getD p):=by
  cases e:m p with
  | none=>exact .refl _
  | some g=>exact(h p g e).2.2.2
 refine⟨fun x g hx=>?_,?_,fun x hx=>?_⟩
 ·unfold LN.land at hx
  split at hx
  ·rename_i hP
   cases hx
   obtain⟨q,a1,a2,a3⟩:=k.next x hP
   refine⟨(hn x hP).1,fun z=>(by rw[a1] at z;cases z),fun q' hq=>?_,a3.trans og⟩
   rw[a1] at hq
   cases hq
   unfold LN.land
   rcases a2 with a2 | a2
   ·rw[if_pos a2]
   ·split
    ·rfl
    ·first | rfl | rw[if_pos a2]
  ·rename_i hP
   split at hx
   ·rename_i ex
    subst ex
    cases hx
    refine⟨hp,fun z=>?_,fun q hq=>?_,og⟩
    ·cases e:m x with
     | none=>rfl
     | some g=>exact(h x g e).2.1 z
    ·cases e:m x with
     | none=>
      rcases stop with z | z | z
      ·rw[e] at z;cases z
      ·exact absurd z hP
      ·rw[hq] at z;cases z
     | some g=>
      have:=(h x g e).2.2.1 q hq
      unfold LN.land
      show(if q∈P then some g else if q=x then some g else m q)=some g
      split
      ·rfl
      ·split
       ·rfl
       ·exact this
   ·rename_i ex
    obtain⟨b1,b2,b3,b4⟩:=h x g hx
    refine⟨b1,b2,fun q hq=>?_,b4⟩
    have hm:=b3 q hq
    unfold LN.land
    split
    ·rename_i hqP
     rw[(hn q hqP).2] at hm
     cases hm
    ·split
     ·rename_i eq
      subst eq
      rw[hm];rfl
     ·exact hm
 ·unfold LN.land
  cases P with
  | nil=>rw[if_neg (by simp),if_pos (show s=p from k)];rfl
  | cons y r=>rw[if_pos (by rw[k.1];exact List.mem_cons_self)];rfl
 ·unfold LN.land
  split
  ·rfl
  ·split
   ·rfl
   ·exact hx
end LN
namespace K16
open PySem PySem.Spec PyProof.Rows L2 L3 U
noncomputable def top(i:Nat):Stmt:=PySem.Challenge.pw_unjump_k16_whole_graph_runs_the_same.main.body.getD i (.Pass ⟨0,0,0,0⟩)
noncomputable def FN:List Str:="quotient"::"rest"::"made"::"holds"::"worth"::"deed_of_sum"::"deed_of_test"::"ways"::"with_ways"::"walked"::"numbered"::"behind"::"deed_of"::"run_from"::"run_graph"::"landings"::"linked"::"graph_of"::"run"::"_law_draws"::"_law_next"::"_law_names"::"_law_great"::"_law_operand"::"_law_row"::"_law_rows"::"_law_alike"::"_law_memory"::"_law_sides"::"_law_same"::"law"::"run_graph"::"run"::[]
noncomputable def GN:List Str:=["JumpError","ByNought","TooGreat","MOST_NODES"]
noncomputable def BN:List Str:=["isinstance","str","tuple","list","dict","enumerate","len","range","max","min","int","bool","sorted"]
noncomputable abbrev Yy:Stmt:=top 6
noncomputable def V5:List Str:=["one","other"]
theorem Gh:FnScope V5 ["one","other"] (Z2 Yy):=⟨rfl,rfl,rfl,by decide+kernel,rfl,by decide+kernel,by decide+kernel⟩
noncomputable def Tn:Ss:=
 (.cons (.ret (.bin .fdiv (.var 0) (.var 1)))
 .nil)
noncomputable def b_quotient:Ss:=
 (.cons (.ite (.cmp .eq (.var 1) (.int 0)) (.cons (.raise 1 .nil)
 .nil) .nil)
 Tn)
theorem Bd:Yh (ck1 [1] V5 Yy FN GN BN) b_quotient (Z5 Yy)=true:=by decide+kernel
noncomputable abbrev Tm:Stmt:=top 7
noncomputable def Eg:List Str:=["one","other"]
theorem Zt9:FnScope Eg ["one","other"] (Z2 Tm):=⟨rfl,rfl,rfl,by decide+kernel,rfl,by decide+kernel,by decide+kernel⟩
noncomputable def Gm:Ss:=
 (.cons (.ret (.bin .mod (.var 0) (.var 1)))
 .nil)
noncomputable def b_rest:Ss:=
 (.cons (.ite (.cmp .eq (.var 1) (.int 0)) (.cons (.raise 1 .nil)
 .nil) .nil)
 Gm)
theorem Zw1:Yh (ck1 [1] Eg Tm FN GN BN) b_rest (Z5 Tm)=true:=by decide+kernel
noncomputable abbrev To:Stmt:=top 5
noncomputable def Ed:List Str:=["sign","one","other"]
theorem Zt7:FnScope Ed ["sign","one","other"] (Z2 To):=⟨rfl,rfl,rfl,by decide+kernel,rfl,by decide+kernel,by decide+kernel⟩
noncomputable def E9:Ss:=
 (.cons (.ret (.bin .bxor (.var 1) (.var 2)))
 .nil)
noncomputable def Fg:Ss:=
 (.cons (.ite (.cmp .eq (.var 0) (.str "&")) (.cons (.ret (.bin .band (.var 1) (.var 2)))
 .nil) .nil)
 E9)
noncomputable def Fm:Ss:=
 (.cons (.ite (.cmp .eq (.var 0) (.str "rest")) (.cons (.ret (.call 1 (.cons (.var 1) (.cons (.var 2) .nil))))
 .nil) .nil)
 Fg)
noncomputable def Gw:Ss:=
 (.cons (.ite (.cmp .eq (.var 0) (.str "/")) (.cons (.ret (.call 0 (.cons (.var 1) (.cons (.var 2) .nil))))
 .nil) .nil)
 Fm)
noncomputable def Gr:Ss:=
 (.cons (.ite (.cmp .eq (.var 0) (.str "-")) (.cons (.ret (.bin .sub (.var 1) (.var 2)))
 .nil) .nil)
 Gw)
noncomputable def b_made:Ss:=
 (.cons (.ite (.cmp .eq (.var 0) (.str "+")) (.cons (.ret (.bin .add (.var 1) (.var 2)))
 .nil) .nil)
 Gr)
theorem Zv5:Yh (ck1 [] Ed To FN GN BN) b_made (Z5 To)=true:=by decide+kernel
noncomputable abbrev Ws:Stmt:=top 8
noncomputable def O1:List Str:=["sign","one","other"]
theorem Za9:FnScope O1 ["sign","one","other"] (Z2 Ws):=⟨rfl,rfl,rfl,by decide+kernel,rfl,by decide+kernel,by decide+kernel⟩
noncomputable def Ja:Ss:=
 (.cons (.ret (.cmp .eq (.var 1) (.var 2)))
 .nil)
noncomputable def b_holds:Ss:=
 (.cons (.ite (.cmp .eq (.var 0) (.str "<")) (.cons (.ret (.cmp .lt (.var 1) (.var 2)))
 .nil) .nil)
 Ja)
theorem Zp1:Yh (ck0 O1 Ws FN GN BN) b_holds (Z5 Ws)=true:=by decide+kernel
noncomputable abbrev Ww:Stmt:=top 9
noncomputable def Pt:List Str:=["operand","memory"]
theorem Zg0:FnScope Pt ["operand","memory"] (Z2 Ww):=⟨rfl,rfl,rfl,by decide+kernel,rfl,by decide+kernel,by decide+kernel⟩
noncomputable def Nh:Ss:=
 (.cons (.ret (.var 0))
 .nil)
noncomputable def b_worth:Ss:=
 (.cons (.ite (.bf .isinst (.cons (.var 0) (.cons (.ty .str) .nil))) (.cons (.ret (.mt .get2 (.var 1) (.cons (.var 0) (.cons (.int 0) .nil))))
 .nil) .nil)
 Nh)
theorem Zo0:Yh (ck0 Pt Ww FN GN BN) b_worth (Z5 Ww)=true:=by decide+kernel
noncomputable abbrev Yg:Stmt:=top 10
noncomputable def Xq:List Str:=["name","one","sign","other","memory","a","b"]
theorem Q0:FnScope Xq ["name","one","sign","other","memory"] (Z2 Yg):=⟨rfl,rfl,rfl,by decide+kernel,rfl,by decide+kernel,by decide+kernel⟩
noncomputable def b_deed_of_sum:Ss:=
 (.cons (.set [5] (.call 4 (.cons (.var 1) (.cons (.var 4) .nil))))
 (.cons (.set [6] (.call 4 (.cons (.var 3) (.cons (.var 4) .nil))))
 (.cons (.ret (.tup (.cons (.str "sum") (.cons (.var 0) (.cons (.var 5) (.cons (.var 2) (.cons (.var 6) (.cons (.call 2 (.cons (.var 2) (.cons (.var 5) (.cons (.var 6) .nil)))) .nil))))))))
 .nil)))
theorem Px:Yh (ck1 [] Xq Yg FN GN BN) b_deed_of_sum (Z5 Yg)=true:=by decide+kernel
noncomputable abbrev Y4:Stmt:=top 11
noncomputable def Xe:List Str:=["one","sign","other","memory","a","b"]
theorem Ro:FnScope Xe ["one","sign","other","memory"] (Z2 Y4):=⟨rfl,rfl,rfl,by decide+kernel,rfl,by decide+kernel,by decide+kernel⟩
noncomputable def b_deed_of_test:Ss:=
 (.cons (.set [4] (.call 4 (.cons (.var 0) (.cons (.var 3) .nil))))
 (.cons (.set [5] (.call 4 (.cons (.var 2) (.cons (.var 3) .nil))))
 (.cons (.ret (.tup (.cons (.str "test") (.cons (.var 4) (.cons (.var 1) (.cons (.var 5) (.cons (.call 3 (.cons (.var 1) (.cons (.var 4) (.cons (.var 5) .nil)))) .nil)))))))
 .nil)))
theorem Q9:Yh (ck0 Xe Y4 FN GN BN) b_deed_of_test (Z5 Y4)=true:=by decide+kernel
noncomputable abbrev S5:Stmt:=top 13
noncomputable def Ev:List Str:=["node"]
theorem Zn9:FnScope Ev ["node"] (Z2 S5):=⟨rfl,rfl,rfl,by decide+kernel,rfl,by decide+kernel,by decide+kernel⟩
noncomputable def Pw:Ss:=
 (.cons (.ret (.tup .nil))
 .nil)
noncomputable def Sk:Ss:=
 (.cons (.ite (.cmp .eq (.ix (.var 0) (.int 0)) (.str "test")) (.cons (.ret (.tup (.cons (.ix (.var 0) (.int 4)) (.cons (.ix (.var 0) (.int 5)) .nil))))
 .nil) .nil)
 Pw)
noncomputable def b_ways:Ss:=
 (.cons (.ite (.cmp .eq (.ix (.var 0) (.int 0)) (.str "sum")) (.cons (.ret (.tup (.cons (.ix (.var 0) (.int 5)) .nil)))
 .nil) .nil)
 Sk)
theorem Y39:Yh (ck0 Ev S5 FN GN BN) b_ways (Z5 S5)=true:=by decide+kernel
noncomputable abbrev Yo:Stmt:=top 14
noncomputable def Wn:List Str:=["node","goals"]
theorem J8:FnScope Wn ["node","goals"] (Z2 Yo):=⟨rfl,rfl,rfl,by decide+kernel,rfl,by decide+kernel,by decide+kernel⟩
noncomputable def Wo:Ss:=
 (.cons (.ret (.var 0))
 .nil)
noncomputable def Xr:Ss:=
 (.cons (.ite (.cmp .eq (.ix (.var 0) (.int 0)) (.str "test")) (.cons (.ret (.bin .add (.sl (.var 0) .no (.yes (.int 4))) (.bf .tuple1 (.cons (.var 1) .nil))))
 .nil) .nil)
 Wo)
noncomputable def b_with_ways:Ss:=
 (.cons (.ite (.cmp .eq (.ix (.var 0) (.int 0)) (.str "sum")) (.cons (.ret (.bin .add (.sl (.var 0) .no (.yes (.int 5))) (.bf .tuple1 (.cons (.var 1) .nil))))
 .nil) .nil)
 Xr)
theorem Jo:Yh (ck0 Wn Yo FN GN BN) b_with_ways (Z5 Yo)=true:=by decide+kernel
noncomputable abbrev W4:Stmt:=top 15
noncomputable def Sl:List Str:=["goals","starts","begun","finished","start","opened","place","left","goal"]
theorem Z30:FnScope Sl ["goals","starts"] (Z2 W4):=⟨rfl,rfl,rfl,by decide+kernel,rfl,by decide+kernel,by decide+kernel⟩
noncomputable def Qe:Ss:=
 (.cons (.expr (.mt .reverse (.var 3) .nil))
 (.cons (.ret (.var 3))
 .nil))
noncomputable def Tc:Ss:=
 (.cons (.set [6,7] (.ix (.var 5) (.neg (.int 1))))
 (.cons (.ite (.cmp .eq (.var 7) (.lst .nil)) (.cons (.expr (.mt .append (.var 3) (.cons (.var 6) .nil)))
 (.cons (.expr (.mt .pop0 (.var 5) .nil))
 .nil)) (.cons (.set [8] (.mt .pop0 (.var 7) .nil))
 (.cons (.ite (.cmp .notin (.var 8) (.var 2)) (.cons (.put (.var 2) (.var 8) (.bl true))
 (.cons (.expr (.mt .append (.var 5) (.cons (.tup (.cons (.var 8) (.cons (.bf .list1 (.cons (.ix (.var 0) (.var 8)) .nil)) .nil))) .nil)))
 .nil)) .nil)
 .nil)))
 .nil))
noncomputable def Qi:Ss:=
 (.cons (.while_ (.var 5) Tc)
 .nil)
noncomputable def Ql:Ss:=
 (.cons (.set [5] (.lst .nil))
 (.cons (.ite (.cmp .notin (.var 4) (.var 2)) (.cons (.put (.var 2) (.var 4) (.bl true))
 (.cons (.expr (.mt .append (.var 5) (.cons (.tup (.cons (.var 4) (.cons (.bf .list1 (.cons (.ix (.var 0) (.var 4)) .nil)) .nil))) .nil)))
 .nil)) .nil)
 Qi))
noncomputable def b_walked:Ss:=
 (.cons (.set [2] .dict0)
 (.cons (.set [3] (.lst .nil))
 (.cons (.for_ [4] (.seq (.var 1)) Ql)
 Qe)))
theorem Za6:Yh (ck0 Sl W4 FN GN BN) b_walked (Z5 W4)=true:=by decide+kernel
noncomputable abbrev X5:Stmt:=top 16
noncomputable def Vd:List Str:=["nodes","order","numbers"]
theorem G0:FnScope Vd ["nodes","order"] (Z2 X5):=⟨rfl,rfl,rfl,by decide+kernel,rfl,by decide+kernel,by decide+kernel⟩
noncomputable def b_numbered:Ss:=
 (.cons (.set [2] (.bf .dict1 (.cons (.comp ["number","place"] [none,none] [0,1] (.enm (.var 1)) .no (.tup (.cons (.var 1) (.cons (.var 0) .nil)))) .nil)))
 (.cons (.ret (.comp ["place","nodes","numbers"] [none,(some 0),(some 2)] [0] (.seq (.var 1)) .no (.call 8 (.cons (.ix (.var 1) (.var 0)) (.cons (.comp ["goal","numbers"] [none,(some 2)] [0] (.seq (.call 7 (.cons (.ix (.var 1) (.var 0)) .nil))) .no (.ix (.var 1) (.var 0))) .nil)))))
 .nil))
theorem Ez:Yh (ck0 Vd X5 FN GN BN) b_numbered (Z5 X5)=true:=by decide+kernel
noncomputable abbrev Wa:Stmt:=top 20
noncomputable def Sc:List Str:=["node","deed","memory"]
theorem Z03:FnScope Sc ["node","deed","memory"] (Z2 Wa):=⟨rfl,rfl,rfl,by decide+kernel,rfl,by decide+kernel,by decide+kernel⟩
noncomputable def Qf:Ss:=
 (.cons (.ret (.ife (.ix (.var 1) (.int 4)) (.ix (.var 0) (.int 4)) (.ix (.var 0) (.int 5))))
 .nil)
noncomputable def b_behind:Ss:=
 (.cons (.ite (.cmp .eq (.ix (.var 0) (.int 0)) (.str "sum")) (.cons (.put (.var 2) (.ix (.var 0) (.int 1)) (.ix (.var 1) (.int 5)))
 (.cons (.ret (.ix (.var 0) (.int 5)))
 .nil)) .nil)
 Qf)
theorem Zg5:Yh (ck0 Sc Wa FN GN BN) b_behind (Z5 Wa)=true:=by decide+kernel
noncomputable abbrev Xh:Stmt:=top 19
noncomputable def T4:List Str:=["node","memory"]
theorem C6:FnScope T4 ["node","memory"] (Z2 Xh):=⟨rfl,rfl,rfl,by decide+kernel,rfl,by decide+kernel,by decide+kernel⟩
noncomputable def Rs:Ss:=
 (.cons (.ret (.call 6 (.cons (.ix (.var 0) (.int 1)) (.cons (.ix (.var 0) (.int 2)) (.cons (.ix (.var 0) (.int 3)) (.cons (.var 1) .nil))))))
 .nil)
noncomputable def b_deed_of:Ss:=
 (.cons (.ite (.cmp .eq (.ix (.var 0) (.int 0)) (.str "sum")) (.cons (.ret (.call 5 (.cons (.ix (.var 0) (.int 1)) (.cons (.ix (.var 0) (.int 2)) (.cons (.ix (.var 0) (.int 3)) (.cons (.ix (.var 0) (.int 4)) (.cons (.var 1) .nil)))))))
 .nil) .nil)
 Rs)
theorem By:Yh (ck1 [] T4 Xh FN GN BN) b_deed_of (Z5 Xh)=true:=by decide+kernel
noncomputable abbrev X4:Stmt:=top 18
noncomputable def V8:List Str:=["nodes","start","memory","most","held","deeds","place","deed","word"]
theorem G2:FnScope V8 ["nodes","start","memory","most"] (Z2 X4):=⟨rfl,rfl,rfl,by decide+kernel,rfl,by decide+kernel,by decide+kernel⟩
noncomputable def V1:Ss:=
 (.cons (.set [8] (.ife (.cmp .eq (.ix (.ix (.var 0) (.var 6)) (.int 0)) (.str "end")) (.str "end") (.str "on")))
 (.cons (.ret (.tup (.cons (.var 5) (.cons (.var 8) (.cons (.var 4) .nil)))))
 .nil))
noncomputable def Tq:Ss:=
 (.cons (.expr (.mt .append (.var 5) (.cons (.var 7) .nil)))
 (.cons (.set [6] (.call 11 (.cons (.ix (.var 0) (.var 6)) (.cons (.var 7) (.cons (.var 4) .nil)))))
 .nil))
noncomputable def S4:Ss:=
 (.cons (.tryN (.set 7) 12 (.cons (.ix (.var 0) (.var 6)) (.cons (.var 4) .nil)) 1 (.cons (.ret (.tup (.cons (.var 5) (.cons (.str "fault") (.cons (.var 4) .nil)))))
 .nil))
 Tq)
noncomputable def b_run_from:Ss:=
 (.cons (.set [4] (.bf .dict1 (.cons (.var 2) .nil)))
 (.cons (.set [5] (.lst .nil))
 (.cons (.set [6] (.var 1))
 (.cons (.while_ (.bop true (.cons (.cmp .isin (.ix (.ix (.var 0) (.var 6)) (.int 0)) (.tup (.cons (.str "sum") (.cons (.str "test") .nil)))) (.cons (.cmp .lt (.bf .len (.cons (.var 5) .nil)) (.var 3)) .nil))) S4)
 V1))))
theorem Bc:Yh (ck0 V8 X4 FN GN BN) b_run_from (Z5 X4)=true:=by decide+kernel
noncomputable abbrev Ym:Stmt:=top 17
noncomputable def Wm:List Str:=["graph","memory","most"]
theorem Oz:FnScope Wm ["graph","memory","most"] (Z2 Ym):=⟨rfl,rfl,rfl,by decide+kernel,rfl,by decide+kernel,by decide+kernel⟩
noncomputable def b_run_graph:Ss:=
 (.cons (.ret (.call 13 (.cons (.var 0) (.cons (.int 0) (.cons (.var 1) (.cons (.var 2) .nil))))))
 .nil)
theorem G7:Yh (ck0 Wm Ym FN GN BN) b_run_graph (Z5 Ym)=true:=by decide+kernel
noncomputable abbrev Yw:Stmt:=top 25
noncomputable def V7:List Str:=["rows","places","landed","start","passed","place","goal","jump"]
theorem Ge:FnScope V7 ["rows","places"] (Z2 Yw):=⟨rfl,rfl,rfl,by decide+kernel,rfl,by decide+kernel,by decide+kernel⟩
noncomputable def S6:Ss:=
 (.cons (.ret (.var 2))
 .nil)
noncomputable def Tj:Ss:=
 (.cons (.put (.var 2) (.var 7) (.var 6))
 .nil)
noncomputable def Wy:Ss:=
 (.cons (.set [6] (.mt .get2 (.var 2) (.cons (.var 5) (.cons (.var 5) .nil))))
 (.cons (.put (.var 2) (.var 5) (.var 6))
 (.cons (.forK [7] (.var 4) Tj)
 .nil)))
noncomputable def Tz:Ss:=
 (.cons (.put (.var 4) (.var 5) (.bl true))
 (.cons (.set [5] (.ix (.var 1) (.ix (.ix (.var 0) (.var 5)) (.int 2))))
 .nil))
noncomputable def Tp:Ss:=
 (.cons (.set [4] .dict0)
 (.cons (.set [5] (.var 3))
 (.cons (.while_ (.bop true (.cons (.cmp .notin (.var 5) (.var 2)) (.cons (.cmp .notin (.var 5) (.var 4)) (.cons (.cmp .eq (.ix (.ix (.var 0) (.var 5)) (.int 1)) (.str "jump")) .nil)))) Tz)
 Wy)))
noncomputable def b_landings:Ss:=
 (.cons (.set [2] .dict0)
 (.cons (.for_ [3] (.rng1 (.bf .len (.cons (.var 0) .nil))) Tp)
 S6))
theorem Ce:Yh (ck0 V7 Yw FN GN BN) b_landings (Z5 Yw)=true:=by decide+kernel
noncomputable abbrev W2:Stmt:=top 24
noncomputable def Sg:List Str:=["rows","places","landed","nodes","place","row"]
theorem Z62:FnScope Sg ["rows"] (Z2 W2):=⟨rfl,rfl,rfl,by decide+kernel,rfl,by decide+kernel,by decide+kernel⟩
noncomputable def Qv:Ss:=
 (.cons (.ret (.tup (.cons (.var 3) (.cons (.ix (.var 2) (.int 0)) .nil))))
 .nil)
noncomputable def Pb:Ss:=
 (.cons (.ite (.cmp .eq (.ix (.var 5) (.int 1)) (.str "sum")) (.cons (.expr (.mt .append (.var 3) (.cons (.bin .add (.sl (.var 5) (.yes (.int 1)) .no) (.tup (.cons (.ix (.var 2) (.bin .add (.var 4) (.int 1))) .nil))) .nil)))
 .nil) (.cons (.ite (.cmp .eq (.ix (.var 5) (.int 1)) (.str "test")) (.cons (.expr (.mt .append (.var 3) (.cons (.bin .add (.sl (.var 5) (.yes (.int 1)) (.yes (.int 5))) (.tup (.cons (.ix (.var 2) (.ix (.var 1) (.ix (.var 5) (.int 5)))) (.cons (.ix (.var 2) (.bin .add (.var 4) (.int 1))) .nil)))) .nil)))
 .nil) (.cons (.ite (.cmp .eq (.ix (.var 5) (.int 1)) (.str "end")) (.cons (.expr (.mt .append (.var 3) (.cons (.tup (.cons (.str "end") .nil)) .nil)))
 .nil) (.cons (.expr (.mt .append (.var 3) (.cons (.tup (.cons (.str "spin") .nil)) .nil)))
 .nil))
 .nil))
 .nil))
 .nil)
noncomputable def b_linked:Ss:=
 (.cons (.set [1] (.bf .dict1 (.cons (.comp ["place","row"] [none,none] [0,1] (.enm (.var 0)) .no (.tup (.cons (.ix (.var 1) (.int 0)) (.cons (.var 0) .nil)))) .nil)))
 (.cons (.set [2] (.call 15 (.cons (.var 0) (.cons (.var 1) .nil))))
 (.cons (.set [3] (.lst .nil))
 (.cons (.for_ [4,5] (.enm (.var 0)) Pb)
 Qv))))
theorem Zd9:Yh (ck0 Sg W2 FN GN BN) b_linked (Z5 W2)=true:=by decide+kernel
noncomputable abbrev Yz:Stmt:=top 23
noncomputable def Vh:List Str:=["rows","nodes","start","order"]
theorem G1:FnScope Vh ["rows"] (Z2 Yz):=⟨rfl,rfl,rfl,by decide+kernel,rfl,by decide+kernel,by decide+kernel⟩
noncomputable def Tv:Ss:=
 (.cons (.ret (.call 10 (.cons (.var 1) (.cons (.var 3) .nil))))
 .nil)
noncomputable def b_graph_of:Ss:=
 (.cons (.set [1,2] (.call 16 (.cons (.var 0) .nil)))
 (.cons (.set [3] (.call 9 (.cons (.comp ["node"] [none] [0] (.seq (.var 1)) .no (.call 7 (.cons (.var 0) .nil))) (.cons (.lst (.cons (.var 2) .nil)) .nil))))
 (.cons (.ite (.cmp .gt (.bf .len (.cons (.var 3) .nil)) (.glb 3)) (.cons (.raise 2 .nil)
 .nil) .nil)
 Tv)))
theorem Cu:Yh (ck1 [2] Vh Yz FN GN BN) b_graph_of (Z5 Yz)=true:=by decide+kernel
noncomputable abbrev N6:Stmt:=top 27
noncomputable def Ze9:List Str:=["rows","memory","most","nodes","start"]
theorem Y29:FnScope Ze9 ["rows","memory","most"] (Z2 N6):=⟨rfl,rfl,rfl,by decide+kernel,rfl,by decide+kernel,by decide+kernel⟩
noncomputable def b_run:Ss:=
 (.cons (.set [3,4] (.call 16 (.cons (.var 0) .nil)))
 (.cons (.ret (.call 13 (.cons (.var 3) (.cons (.var 4) (.cons (.var 1) (.cons (.var 2) .nil))))))
 .nil))
theorem Y61:Yh (ck0 Ze9 N6 FN GN BN) b_run (Z5 N6)=true:=by decide+kernel
noncomputable abbrev W1:Stmt:=top 29
noncomputable def Sf:List Str:=["_law_script","_law_cells","_law_by_digits","_law_left","_law_found","_law_k","_law_at","_law_number"]
theorem Z55:FnScope Sf ["_law_script"] (Z2 W1):=⟨rfl,rfl,rfl,by decide+kernel,rfl,by decide+kernel,by decide+kernel⟩
noncomputable def Qn:Ss:=
 (.cons (.ret (.rev (.var 4)))
 .nil)
noncomputable def Vf:Ss:=
 (.cons (.expr (.mt .append (.var 4) (.cons (.var 7) .nil)))
 .nil)
noncomputable def Qj:Ss:=
 (.cons (.set [6] (.bin .mod (.var 5) (.bf .len (.cons (.var 1) .nil))))
 (.cons (.set [7] (.bin .mod (.ix (.var 3) (.var 6)) (.int 2147483629)))
 (.cons (.ite (.bop true (.cons (.var 2) (.cons (.cmp .notin (.ix (.var 3) (.var 6)) (.lst (.cons (.int 0) (.cons (.neg (.int 1)) .nil)))) .nil))) (.cons (.put (.var 3) (.var 6) (.bin .fdiv (.ix (.var 3) (.var 6)) (.int 2147483629)))
 .nil) (.cons (.set [7] (.bin .mod (.bin .add (.bin .add (.bin .mul (.bin .mod (.ix (.var 1) (.var 6)) (.int 2147483629)) (.int 48271)) (.bin .mul (.bin .mul (.int 7919) (.var 5)) (.var 5))) (.int 104729)) (.int 2147483647)))
 (.cons (.set [7] (.bin .mod (.bin .mul (.var 7) (.var 7)) (.int 2147483629)))
 (.cons (.set [7] (.bin .mod (.bin .mul (.bin .mod (.bin .add (.bin .mul (.var 7) (.int 69621)) (.bin .mul (.int 3571) (.var 5))) (.int 2147483563)) (.var 7)) (.int 2147483629)))
 .nil))))
 Vf)))
noncomputable def b_Ldraws:Ss:=
 (.cons (.set [1] (.sl (.bin .add (.bf .list1 (.cons (.sl (.var 0) .no (.yes (.int 63))) .nil)) (.lst (.cons (.int 0) .nil))) .no (.yes (.bf .max2 (.cons (.int 1) (.cons (.bf .min2 (.cons (.bf .len (.cons (.var 0) .nil)) (.cons (.int 63) .nil))) .nil))))))
 (.cons (.set [2] (.cmp .eq (.bin .mod (.ix (.var 1) (.int 0)) (.int 2)) (.int 1)))
 (.cons (.put (.var 1) (.int 0) (.bin .fdiv (.ix (.var 1) (.int 0)) (.int 2)))
 (.cons (.set [3] (.bf .list1 (.cons (.var 1) .nil)))
 (.cons (.set [4] (.lst .nil))
 (.cons (.for_ [5] (.rng1 (.int 900)) Qj)
 Qn))))))
theorem Zf2:Yh (ck0 Sf W1 FN GN BN) b_Ldraws (Z5 W1)=true:=by decide+kernel
noncomputable abbrev Wv:Stmt:=top 30
noncomputable def Pv:List Str:=["_law_drawn"]
theorem Zb1:FnScope Pv ["_law_drawn"] (Z2 Wv):=⟨rfl,rfl,rfl,by decide+kernel,rfl,by decide+kernel,by decide+kernel⟩
noncomputable def Jm:Ss:=
 (.cons (.ret (.mt .pop0 (.var 0) .nil))
 .nil)
noncomputable def b_Lnext:Ss:=
 (.cons (.ite (.cmp .eq (.var 0) (.lst .nil)) (.cons (.ret (.int 0))
 .nil) .nil)
 Jm)
theorem Zs6:Yh (ck0 Pv Wv FN GN BN) b_Lnext (Z5 Wv)=true:=by decide+kernel
noncomputable abbrev W3:Stmt:=top 31
noncomputable def Se:List Str:=["_law_number","_law_some"]
theorem Z73:FnScope Se ["_law_number"] (Z2 W3):=⟨rfl,rfl,rfl,by decide+kernel,rfl,by decide+kernel,by decide+kernel⟩
noncomputable def b_Lnames:Ss:=
 (.cons (.set [1] (.lst (.cons (.lst (.cons (.str "x") (.cons (.str "y") (.cons (.str "z") (.cons (.str "w") .nil))))) (.cons (.lst (.cons (.str "ab") (.cons (.str "aa") (.cons (.str "bb") (.cons (.str "ba") .nil))))) (.cons (.lst (.cons (.str "q1") (.cons (.str "q") (.cons (.str "q11") (.cons (.str "q2") .nil))))) .nil)))))
 (.cons (.expr (.mt .append (.var 1) (.cons (.lst (.cons (.str "sum1aaaa") (.cons (.str "sum1aaab") (.cons (.str "sum2aaaa") (.cons (.str "tum1aaaa") .nil))))) .nil)))
 (.cons (.ret (.ix (.var 1) (.bin .mod (.var 0) (.int 4))))
 .nil)))
theorem Zi4:Yh (ck0 Se W3 FN GN BN) b_Lnames (Z5 W3)=true:=by decide+kernel
noncomputable abbrev W9:Stmt:=top 32
noncomputable def Sa:List Str:=["_law_drawn","_law_number"]
theorem Bv:FnScope Sa ["_law_drawn"] (Z2 W9):=⟨rfl,rfl,rfl,by decide+kernel,rfl,by decide+kernel,by decide+kernel⟩
noncomputable def b_Lgreat:Ss:=
 (.cons (.set [1] (.bin .mul (.call 20 (.cons (.var 0) .nil)) (.int 2147483629)))
 (.cons (.ret (.bin .sub (.bin .mod (.bin .add (.var 1) (.call 20 (.cons (.var 0) .nil))) (.bin .add (.bin .mul (.int 2) (.bin .pow (.int 10) (.int 18))) (.int 1))) (.bin .pow (.int 10) (.int 18))))
 .nil))
theorem Zf6:Yh (ck0 Sa W9 FN GN BN) b_Lgreat (Z5 W9)=true:=by decide+kernel
noncomputable abbrev X0:Stmt:=top 33
noncomputable def Vb:List Str:=["_law_drawn","_law_names_here","_law_way"]
theorem Jw:FnScope Vb ["_law_drawn","_law_names_here"] (Z2 X0):=⟨rfl,rfl,rfl,by decide+kernel,rfl,by decide+kernel,by decide+kernel⟩
noncomputable def Tu:Ss:=
 (.cons (.ret (.ix (.var 1) (.bin .mod (.call 20 (.cons (.var 0) .nil)) (.int 4))))
 .nil)
noncomputable def Tw:Ss:=
 (.cons (.ite (.cmp .lt (.var 2) (.int 3)) (.cons (.ret (.bin .sub (.bin .mod (.call 20 (.cons (.var 0) .nil)) (.int 9)) (.int 3)))
 .nil) .nil)
 Tu)
noncomputable def b_Loperand:Ss:=
 (.cons (.set [2] (.bin .mod (.call 20 (.cons (.var 0) .nil)) (.int 8)))
 (.cons (.ite (.cmp .eq (.var 2) (.int 0)) (.cons (.ret (.call 22 (.cons (.var 0) .nil)))
 .nil) .nil)
 Tw))
theorem C1:Yh (ck0 Vb X0 FN GN BN) b_Loperand (Z5 X0)=true:=by decide+kernel
noncomputable abbrev Tt:Stmt:=top 34
noncomputable def Fq:List Str:=["_law_drawn","_law_k","_law_numbers","_law_names_here","_law_kind","_law_one","_law_other","_law_sign"]
theorem Zm3:FnScope Fq ["_law_drawn","_law_k","_law_numbers","_law_names_here"] (Z2 Tt):=⟨rfl,rfl,rfl,by decide+kernel,rfl,by decide+kernel,by decide+kernel⟩
noncomputable def Gu:Ss:=
 (.cons (.set [7] (.ix (.lst (.cons (.str "<") (.cons (.str "=") .nil))) (.bin .mod (.call 20 (.cons (.var 0) .nil)) (.int 2))))
 (.cons (.ret (.tup (.cons (.ix (.var 2) (.var 1)) (.cons (.str "test") (.cons (.var 5) (.cons (.var 7) (.cons (.var 6) (.cons (.ix (.var 2) (.bin .mod (.call 20 (.cons (.var 0) .nil)) (.bf .len (.cons (.var 2) .nil)))) .nil))))))))
 .nil))
noncomputable def Gy:Ss:=
 (.cons (.set [5] (.call 23 (.cons (.var 0) (.cons (.var 3) .nil))))
 (.cons (.set [6] (.call 23 (.cons (.var 0) (.cons (.var 3) .nil))))
 (.cons (.ite (.cmp .lt (.var 4) (.int 7)) (.cons (.set [7] (.ix (.lst (.cons (.str "+") (.cons (.str "-") (.cons (.str "/") (.cons (.str "rest") (.cons (.str "&") (.cons (.str "^") .nil))))))) (.bin .mod (.call 20 (.cons (.var 0) .nil)) (.int 6))))
 (.cons (.ret (.tup (.cons (.ix (.var 2) (.var 1)) (.cons (.str "sum") (.cons (.ix (.var 3) (.bin .mod (.call 20 (.cons (.var 0) .nil)) (.int 4))) (.cons (.var 5) (.cons (.var 7) (.cons (.var 6) .nil))))))))
 .nil)) .nil)
 Gu)))
noncomputable def E4:Ss:=
 (.cons (.ite (.cmp .gt (.var 4) (.int 11)) (.cons (.ret (.tup (.cons (.ix (.var 2) (.var 1)) (.cons (.str "jump") (.cons (.ix (.var 2) (.bin .mod (.call 20 (.cons (.var 0) .nil)) (.bf .len (.cons (.var 2) .nil)))) .nil)))))
 .nil) .nil)
 Gy)
noncomputable def b_Lrow:Ss:=
 (.cons (.set [4] (.bin .mod (.call 20 (.cons (.var 0) .nil)) (.int 16)))
 (.cons (.ite (.cmp .eq (.var 4) (.int 15)) (.cons (.ret (.tup (.cons (.ix (.var 2) (.var 1)) (.cons (.str "end") .nil))))
 .nil) .nil)
 E4))
theorem Zx7:Yh (ck0 Fq Tt FN GN BN) b_Lrow (Z5 Tt)=true:=by decide+kernel
noncomputable abbrev Wx:Stmt:=top 35
noncomputable def Py:List Str:=["_law_drawn","_law_names_here","_law_room","_law_many","_law_step","_law_numbers","_law_k","_law_rows_here"]
theorem Zh3:FnScope Py ["_law_drawn","_law_names_here","_law_room"] (Z2 Wx):=⟨rfl,rfl,rfl,by decide+kernel,rfl,by decide+kernel,by decide+kernel⟩
noncomputable def Rz:Ss:=
 (.cons (.ret (.var 7))
 .nil)
noncomputable def N2:Ss:=
 (.cons (.set [7] (.comp ["_law_k","_law_drawn","_law_numbers","_law_names_here"] [none,(some 0),(some 5),(some 1)] [0] (.rng1 (.var 3)) .no (.call 24 (.cons (.var 1) (.cons (.var 0) (.cons (.var 2) (.cons (.var 3) .nil)))))))
 (.cons (.ite (.cmp .eq (.bin .mod (.call 20 (.cons (.var 0) .nil)) (.int 3)) (.int 0)) (.cons (.expr (.mt .append (.var 7) (.cons (.tup (.cons (.ix (.var 5) (.neg (.int 1))) (.cons (.str "jump") (.cons (.ix (.var 5) (.bin .mod (.call 20 (.cons (.var 0) .nil)) (.bf .len (.cons (.var 5) .nil)))) .nil)))) .nil)))
 .nil) (.cons (.expr (.mt .append (.var 7) (.cons (.tup (.cons (.ix (.var 5) (.neg (.int 1))) (.cons (.str "end") .nil))) .nil)))
 .nil))
 Rz))
noncomputable def J2:Ss:=
 (.cons (.expr (.mt .append (.var 5) (.cons (.bin .add (.bin .add (.ix (.var 5) (.var 6)) (.int 1)) (.bin .mod (.call 20 (.cons (.var 0) .nil)) (.var 4))) .nil)))
 .nil)
noncomputable def b_Lrows:Ss:=
 (.cons (.set [3] (.bin .mod (.call 20 (.cons (.var 0) .nil)) (.bin .add (.var 2) (.int 1))))
 (.cons (.set [4] (.ix (.lst (.cons (.int 1) (.cons (.int 10) (.cons (.int 97) .nil)))) (.bin .mod (.call 20 (.cons (.var 0) .nil)) (.int 3))))
 (.cons (.set [5] (.lst (.cons (.bin .mod (.call 20 (.cons (.var 0) .nil)) (.int 300)) .nil)))
 (.cons (.for_ [6] (.rng1 (.var 3)) J2)
 N2))))
theorem Zq4:Yh (ck0 Py Wx FN GN BN) b_Lrows (Z5 Wx)=true:=by decide+kernel
noncomputable abbrev W5:Stmt:=top 36
noncomputable def Xz:List Str:=["_law_found","_law_due","_law_k"]
theorem Rk:FnScope Xz ["_law_found","_law_due"] (Z2 W5):=⟨rfl,rfl,rfl,by decide+kernel,rfl,by decide+kernel,by decide+kernel⟩
noncomputable def Pc:Ss:=
 (.cons (.ret (.bl true))
 .nil)
noncomputable def Qm:Ss:=
 (.cons (.ite (.not (.call 26 (.cons (.ix (.var 0) (.var 2)) (.cons (.ix (.var 1) (.var 2)) .nil)))) (.cons (.ret (.bl false))
 .nil) .nil)
 .nil)
noncomputable def Pa:Ss:=
 (.cons (.for_ [2] (.rng1 (.bf .len (.cons (.var 1) .nil))) Qm)
 Pc)
noncomputable def T9:Ss:=
 (.cons (.ite (.cmp .ne (.bf .len (.cons (.var 0) .nil)) (.bf .len (.cons (.var 1) .nil))) (.cons (.ret (.bl false))
 .nil) .nil)
 Pa)
noncomputable def T8:Ss:=
 (.cons (.ite (.bf .isinst (.cons (.var 1) (.cons (.ty .tuple) .nil))) (.cons (.ite (.not (.bf .isinst (.cons (.var 0) (.cons (.ty .tuple) .nil)))) (.cons (.ret (.bl false))
 .nil) .nil)
 .nil) (.cons (.ite (.not (.bf .isinst (.cons (.var 0) (.cons (.ty .list) .nil)))) (.cons (.ret (.bl false))
 .nil) .nil)
 .nil))
 T9)
noncomputable def V3:Ss:=
 (.cons (.ite (.bf .isinst (.cons (.var 1) (.cons (.ty .str) .nil))) (.cons (.ret (.bop true (.cons (.bf .isinst (.cons (.var 0) (.cons (.ty .str) .nil))) (.cons (.cmp .eq (.var 0) (.var 1)) .nil))))
 .nil) .nil)
 T8)
noncomputable def Wf:Ss:=
 (.cons (.ite (.bf .isinst (.cons (.var 1) (.cons (.ty .int) .nil))) (.cons (.ret (.bop true (.cons (.bf .isinst (.cons (.var 0) (.cons (.ty .int) .nil))) (.cons (.not (.bf .isinst (.cons (.var 0) (.cons (.ty .bool) .nil)))) (.cons (.cmp .eq (.var 0) (.var 1)) .nil)))))
 .nil) .nil)
 V3)
noncomputable def Xu:Ss:=
 (.cons (.ite (.bf .isinst (.cons (.var 1) (.cons (.ty .bool) .nil))) (.cons (.ret (.bop true (.cons (.bf .isinst (.cons (.var 0) (.cons (.ty .bool) .nil))) (.cons (.cmp .eq (.var 0) (.var 1)) .nil))))
 .nil) .nil)
 Wf)
noncomputable def b_Lalike:Ss:=
 (.cons (.ite (.cmp .is (.var 1) .non) (.cons (.ret (.cmp .is (.var 0) .non))
 .nil) .nil)
 Xu)
theorem O3:Yh (ck0 Xz W5 FN GN BN) b_Lalike (Z5 W5)=true:=by decide+kernel
noncomputable abbrev Xj:Stmt:=top 37
noncomputable def T3:List Str:=["_law_drawn","_law_names_here","_law_memory_here","_law_name","_law_way"]
theorem Cj:FnScope T3 ["_law_drawn","_law_names_here"] (Z2 Xj):=⟨rfl,rfl,rfl,by decide+kernel,rfl,by decide+kernel,by decide+kernel⟩
noncomputable def R6:Ss:=
 (.cons (.ret (.var 2))
 .nil)
noncomputable def R0:Ss:=
 (.cons (.set [4] (.bin .mod (.call 20 (.cons (.var 0) .nil)) (.int 6)))
 (.cons (.ite (.cmp .gt (.var 4) (.int 2)) (.cons (.put (.var 2) (.var 3) (.bin .sub (.bin .mod (.call 20 (.cons (.var 0) .nil)) (.int 41)) (.int 20)))
 .nil) (.cons (.ite (.cmp .gt (.var 4) (.int 0)) (.cons (.put (.var 2) (.var 3) (.call 22 (.cons (.var 0) .nil)))
 .nil) .nil)
 .nil))
 .nil))
noncomputable def b_Lmemory:Ss:=
 (.cons (.set [2] .dict0)
 (.cons (.for_ [3] (.seq (.var 1)) R0)
 R6))
theorem Z95:Yh (ck0 T3 Xj FN GN BN) b_Lmemory (Z5 Xj)=true:=by decide+kernel
noncomputable abbrev W6:Stmt:=top 38
noncomputable def Sb:List Str:=["_law_memory_here"]
theorem Bo:FnScope Sb ["_law_memory_here"] (Z2 W6):=⟨rfl,rfl,rfl,by decide+kernel,rfl,by decide+kernel,by decide+kernel⟩
noncomputable def b_Lsides:Ss:=
 (.cons (.ret (.comp ["_law_name","_law_memory_here"] [none,(some 0)] [0] (.seq (.bf .sorted1 (.cons (.var 0) .nil))) .no (.tup (.cons (.var 0) (.cons (.ix (.var 1) (.var 0)) .nil)))))
 .nil)
theorem Zd5:Yh (ck0 Sb W6 FN GN BN) b_Lsides (Z5 W6)=true:=by decide+kernel
noncomputable abbrev Wz:Stmt:=top 39
noncomputable def O7:List Str:=["_law_found","_law_due"]
theorem Zd1:FnScope O7 ["_law_found","_law_due"] (Z2 Wz):=⟨rfl,rfl,rfl,by decide+kernel,rfl,by decide+kernel,by decide+kernel⟩
noncomputable def Ng:Ss:=
 (.cons (.ret (.call 26 (.cons (.call 28 (.cons (.ix (.var 0) (.int 2)) .nil)) (.cons (.call 28 (.cons (.ix (.var 1) (.int 2)) .nil)) .nil))))
 .nil)
noncomputable def Om:Ss:=
 (.cons (.ite (.bop false (.cons (.not (.call 26 (.cons (.ix (.var 0) (.int 0)) (.cons (.ix (.var 1) (.int 0)) .nil)))) (.cons (.not (.call 26 (.cons (.ix (.var 0) (.int 1)) (.cons (.ix (.var 1) (.int 1)) .nil)))) .nil))) (.cons (.ret (.bl false))
 .nil) .nil)
 Ng)
noncomputable def b_Lsame:Ss:=
 (.cons (.ite (.bop false (.cons (.not (.bf .isinst (.cons (.var 0) (.cons (.ty .tuple) .nil)))) (.cons (.cmp .ne (.bf .len (.cons (.var 0) .nil)) (.int 3)) (.cons (.not (.bf .isinst (.cons (.ix (.var 0) (.int 2)) (.cons (.ty .dict) .nil)))) .nil)))) (.cons (.ret (.bl false))
 .nil) .nil)
 Om)
theorem Zq2:Yh (ck0 O7 Wz FN GN BN) b_Lsame (Z5 Wz)=true:=by decide+kernel
noncomputable abbrev Jg:Stmt:=top 40
noncomputable def Zi2:List Str:=["_law_script","_law_drawn","_law_names_here","_law_rows_here","_law_memory_here","_law_graph","_law_held","_law_many","_law_handed","_law_found","_law_due"]
theorem Y12:FnScope Zi2 ["_law_script"] (Z2 Jg):=⟨rfl,rfl,rfl,by decide+kernel,rfl,by decide+kernel,by decide+kernel⟩
noncomputable def Jx:Ss:=
 (.cons (.expr (.call 14 (.cons (.var 5) (.cons (.dct2 (.str "x") (.int 3) (.str "ab") (.neg (.int 7))) (.cons (.int 20) .nil)))))
 (.cons (.put (.var 8) (.str "x") (.bin .add (.var 7) (.int 1)))
 (.cons (.ret (.bop true (.cons (.call 29 (.cons (.callk (.cons (.var 5) (.cons (.var 4) .nil)) (.var 7)) (.cons (.var 10) .nil))) (.cons (.cmp .eq (.bf .len (.cons (.ix (.var 9) (.int 0)) .nil)) (.bin .add (.bf .len (.cons (.ix (.var 10) (.int 0)) .nil)) (.int 1))) .nil))))
 .nil)))
noncomputable def Z40:Ss:=
 (.cons (.expr (.mt .append (.ix (.var 9) (.int 0)) (.cons (.str "more") .nil)))
 (.cons (.put (.ix (.var 9) (.int 2)) (.str "x") (.var 7))
 (.cons (.ite (.cmp .ne (.var 8) (.var 4)) (.cons (.ret (.bl false))
 .nil) .nil)
 Jx)))
noncomputable def Pn:Ss:=
 (.cons (.set [10] (.call 18 (.cons (.var 3) (.cons (.bf .dict1 (.cons (.var 4) .nil)) (.cons (.var 7) .nil)))))
 (.cons (.ite (.bop false (.cons (.not (.call 29 (.cons (.var 9) (.cons (.var 10) .nil)))) (.cons (.cmp .ne (.var 8) (.var 4)) (.cons (.cmp .ne (.var 5) (.var 6)) .nil)))) (.cons (.ret (.bl false))
 .nil) .nil)
 Z40))
noncomputable def b_law:Ss:=
 (.cons (.set [1] (.call 19 (.cons (.var 0) .nil)))
 (.cons (.set [2] (.call 21 (.cons (.call 20 (.cons (.var 1) .nil)) .nil)))
 (.cons (.set [3] (.call 25 (.cons (.var 1) (.cons (.var 2) (.cons (.int 39) .nil)))))
 (.cons (.set [4] (.call 27 (.cons (.var 1) (.cons (.var 2) .nil))))
 (.cons (.set [5] (.call 17 (.cons (.var 3) .nil)))
 (.cons (.set [6] (.bf .list1 (.cons (.var 5) .nil)))
 (.cons (.set [7] (.bin .mod (.call 20 (.cons (.var 1) .nil)) (.int 120)))
 (.cons (.set [8] (.bf .dict1 (.cons (.var 4) .nil)))
 (.cons (.ite (.cmp .eq (.bin .mod (.call 20 (.cons (.var 1) .nil)) (.int 3)) (.int 0)) (.cons (.set [7] (.int 100))
 (.cons (.set [9] (.call 31 (.cons (.var 5) (.cons (.var 8) .nil))))
 .nil)) (.cons (.set [9] (.call 14 (.cons (.var 5) (.cons (.var 8) (.cons (.var 7) .nil)))))
 .nil))
 Pn)))))))))
theorem Y53:Yh (ck0 Zi2 Jg FN GN BN) b_law (Z5 Jg)=true:=by decide+kernel
noncomputable def Y31:Stmt→Stmt
 | .ClassDef _ _ _ (b::_) _ _ _ _ _ _ _=>b
 | s=>s
noncomputable abbrev Ov:Stmt:=Y31 (top 1)
theorem Zp5:FnScope ["self","row"] ["self","row"] (Z2 Ov):=⟨rfl,rfl,rfl,by decide+kernel,rfl,by decide+kernel,by decide+kernel⟩
theorem Zt5:Zc4 Ov=true:=by decide+kernel
set_option genInjectivity false in
structure Adr where
 mk::
 a_quotient:Addr
 d_quotient:FuncData
 a_rest:Addr
 d_rest:FuncData
 a_made:Addr
 d_made:FuncData
 a_holds:Addr
 d_holds:FuncData
 a_worth:Addr
 d_worth:FuncData
 a_deed_of_sum:Addr
 d_deed_of_sum:FuncData
 a_deed_of_test:Addr
 d_deed_of_test:FuncData
 a_ways:Addr
 d_ways:FuncData
 a_with_ways:Addr
 d_with_ways:FuncData
 a_walked:Addr
 d_walked:FuncData
 a_numbered:Addr
 d_numbered:FuncData
 a_behind:Addr
 d_behind:FuncData
 a_deed_of:Addr
 d_deed_of:FuncData
 a_run_from:Addr
 d_run_from:FuncData
 a_run_graph:Addr
 d_run_graph:FuncData
 a_landings:Addr
 d_landings:FuncData
 a_linked:Addr
 d_linked:FuncData
 a_graph_of:Addr
 d_graph_of:FuncData
 a_run:Addr
 d_run:FuncData
 a_Ldraws:Addr
 d_Ldraws:FuncData
 a_Lnext:Addr
 d_Lnext:FuncData
 a_Lnames:Addr
 d_Lnames:FuncData
 a_Lgreat:Addr
 d_Lgreat:FuncData
 a_Loperand:Addr
 d_Loperand:FuncData
 a_Lrow:Addr
 d_Lrow:FuncData
 a_Lrows:Addr
 d_Lrows:FuncData
 a_Lalike:Addr
 d_Lalike:FuncData
 a_Lmemory:Addr
 d_Lmemory:FuncData
 a_Lsides:Addr
 d_Lsides:FuncData
 a_Lsame:Addr
 d_Lsame:FuncData
 a_law:Addr
 d_law:FuncData
 a_JumpError:Addr
 a_ByNought:Addr
 a_TooGreat:Addr
 a_init:Addr
 d_init:FuncData
structure Tx(K:PySem.W.Frag)(mg:Str→Option Value)(t:Adr):Prop where
 mk::
 F_quotient:Fun K "quotient" "quotient" Yy t.a_quotient t.d_quotient
 g_quotient:mg "quotient"=some (.ref t.a_quotient)
 k_quotient:PySem.W.keepIn K (.ref t.a_quotient)=true
 b_quotient:Zr K t.d_quotient ["one","other"] []
 F_rest:Fun K "rest" "rest" Tm t.a_rest t.d_rest
 g_rest:mg "rest"=some (.ref t.a_rest)
 k_rest:PySem.W.keepIn K (.ref t.a_rest)=true
 b_rest:Zr K t.d_rest ["one","other"] []
 F_made:Fun K "made" "made" To t.a_made t.d_made
 g_made:mg "made"=some (.ref t.a_made)
 k_made:PySem.W.keepIn K (.ref t.a_made)=true
 b_made:Zr K t.d_made ["sign","one","other"] []
 F_holds:Fun K "holds" "holds" Ws t.a_holds t.d_holds
 g_holds:mg "holds"=some (.ref t.a_holds)
 k_holds:PySem.W.keepIn K (.ref t.a_holds)=true
 b_holds:Zr K t.d_holds ["sign","one","other"] []
 F_worth:Fun K "worth" "worth" Ww t.a_worth t.d_worth
 g_worth:mg "worth"=some (.ref t.a_worth)
 k_worth:PySem.W.keepIn K (.ref t.a_worth)=true
 b_worth:Zr K t.d_worth ["operand","memory"] []
 F_deed_of_sum:Fun K "deed_of_sum" "deed_of_sum" Yg t.a_deed_of_sum t.d_deed_of_sum
 g_deed_of_sum:mg "deed_of_sum"=some (.ref t.a_deed_of_sum)
 k_deed_of_sum:PySem.W.keepIn K (.ref t.a_deed_of_sum)=true
 b_deed_of_sum:Zr K t.d_deed_of_sum ["name","one","sign","other","memory"] []
 F_deed_of_test:Fun K "deed_of_test" "deed_of_test" Y4 t.a_deed_of_test t.d_deed_of_test
 g_deed_of_test:mg "deed_of_test"=some (.ref t.a_deed_of_test)
 k_deed_of_test:PySem.W.keepIn K (.ref t.a_deed_of_test)=true
 b_deed_of_test:Zr K t.d_deed_of_test ["one","sign","other","memory"] []
 F_ways:Fun K "ways" "ways" S5 t.a_ways t.d_ways
 g_ways:mg "ways"=some (.ref t.a_ways)
 k_ways:PySem.W.keepIn K (.ref t.a_ways)=true
 b_ways:Zr K t.d_ways ["node"] []
 F_with_ways:Fun K "with_ways" "with_ways" Yo t.a_with_ways t.d_with_ways
 g_with_ways:mg "with_ways"=some (.ref t.a_with_ways)
 k_with_ways:PySem.W.keepIn K (.ref t.a_with_ways)=true
 b_with_ways:Zr K t.d_with_ways ["node","goals"] []
 F_walked:Fun K "walked" "walked" W4 t.a_walked t.d_walked
 g_walked:mg "walked"=some (.ref t.a_walked)
 k_walked:PySem.W.keepIn K (.ref t.a_walked)=true
 b_walked:Zr K t.d_walked ["goals","starts"] []
 F_numbered:Fun K "numbered" "numbered" X5 t.a_numbered t.d_numbered
 g_numbered:mg "numbered"=some (.ref t.a_numbered)
 k_numbered:PySem.W.keepIn K (.ref t.a_numbered)=true
 b_numbered:Zr K t.d_numbered ["nodes","order"] []
 F_behind:Fun K "behind" "behind" Wa t.a_behind t.d_behind
 g_behind:mg "behind"=some (.ref t.a_behind)
 k_behind:PySem.W.keepIn K (.ref t.a_behind)=true
 b_behind:Zr K t.d_behind ["node","deed","memory"] []
 F_deed_of:Fun K "deed_of" "deed_of" Xh t.a_deed_of t.d_deed_of
 g_deed_of:mg "deed_of"=some (.ref t.a_deed_of)
 k_deed_of:PySem.W.keepIn K (.ref t.a_deed_of)=true
 b_deed_of:Zr K t.d_deed_of ["node","memory"] []
 F_run_from:Fun K "run_from" "run_from" X4 t.a_run_from t.d_run_from
 g_run_from:mg "run_from"=some (.ref t.a_run_from)
 k_run_from:PySem.W.keepIn K (.ref t.a_run_from)=true
 b_run_from:Zr K t.d_run_from ["nodes","start","memory","most"] []
 F_run_graph:Fun K "run_graph" "run_graph" Ym t.a_run_graph t.d_run_graph
 g_run_graph:mg "run_graph"=some (.ref t.a_run_graph)
 k_run_graph:PySem.W.keepIn K (.ref t.a_run_graph)=true
 b_run_graph:Zr K t.d_run_graph ["graph","memory","most"] []
 kb:KB K t.d_run_graph ["graph","memory","most"]
 e_run_graph:∃tk,Zr K t.d_run_graph ["graph","memory","most"] [.int 100 tk]
 F_landings:Fun K "landings" "landings" Yw t.a_landings t.d_landings
 g_landings:mg "landings"=some (.ref t.a_landings)
 k_landings:PySem.W.keepIn K (.ref t.a_landings)=true
 b_landings:Zr K t.d_landings ["rows","places"] []
 F_linked:Fun K "linked" "linked" W2 t.a_linked t.d_linked
 g_linked:mg "linked"=some (.ref t.a_linked)
 k_linked:PySem.W.keepIn K (.ref t.a_linked)=true
 b_linked:Zr K t.d_linked ["rows"] []
 F_graph_of:Fun K "graph_of" "graph_of" Yz t.a_graph_of t.d_graph_of
 g_graph_of:mg "graph_of"=some (.ref t.a_graph_of)
 k_graph_of:PySem.W.keepIn K (.ref t.a_graph_of)=true
 b_graph_of:Zr K t.d_graph_of ["rows"] []
 F_run:Fun K "run" "run" N6 t.a_run t.d_run
 g_run:mg "run"=some (.ref t.a_run)
 k_run:PySem.W.keepIn K (.ref t.a_run)=true
 b_run:Zr K t.d_run ["rows","memory","most"] []
 e_run:∃tk,Zr K t.d_run ["rows","memory","most"] [.int 100 tk]
 F_Ldraws:Fun K "_law_draws" "_law_draws" W1 t.a_Ldraws t.d_Ldraws
 g_Ldraws:mg "_law_draws"=some (.ref t.a_Ldraws)
 k_Ldraws:PySem.W.keepIn K (.ref t.a_Ldraws)=true
 b_Ldraws:Zr K t.d_Ldraws ["_law_script"] []
 F_Lnext:Fun K "_law_next" "_law_next" Wv t.a_Lnext t.d_Lnext
 g_Lnext:mg "_law_next"=some (.ref t.a_Lnext)
 k_Lnext:PySem.W.keepIn K (.ref t.a_Lnext)=true
 b_Lnext:Zr K t.d_Lnext ["_law_drawn"] []
 F_Lnames:Fun K "_law_names" "_law_names" W3 t.a_Lnames t.d_Lnames
 g_Lnames:mg "_law_names"=some (.ref t.a_Lnames)
 k_Lnames:PySem.W.keepIn K (.ref t.a_Lnames)=true
 b_Lnames:Zr K t.d_Lnames ["_law_number"] []
 F_Lgreat:Fun K "_law_great" "_law_great" W9 t.a_Lgreat t.d_Lgreat
 g_Lgreat:mg "_law_great"=some (.ref t.a_Lgreat)
 k_Lgreat:PySem.W.keepIn K (.ref t.a_Lgreat)=true
 b_Lgreat:Zr K t.d_Lgreat ["_law_drawn"] []
 F_Loperand:Fun K "_law_operand" "_law_operand" X0 t.a_Loperand t.d_Loperand
 g_Loperand:mg "_law_operand"=some (.ref t.a_Loperand)
 k_Loperand:PySem.W.keepIn K (.ref t.a_Loperand)=true
 b_Loperand:Zr K t.d_Loperand ["_law_drawn","_law_names_here"] []
 F_Lrow:Fun K "_law_row" "_law_row" Tt t.a_Lrow t.d_Lrow
 g_Lrow:mg "_law_row"=some (.ref t.a_Lrow)
 k_Lrow:PySem.W.keepIn K (.ref t.a_Lrow)=true
 b_Lrow:Zr K t.d_Lrow ["_law_drawn","_law_k","_law_numbers","_law_names_here"] []
 F_Lrows:Fun K "_law_rows" "_law_rows" Wx t.a_Lrows t.d_Lrows
 g_Lrows:mg "_law_rows"=some (.ref t.a_Lrows)
 k_Lrows:PySem.W.keepIn K (.ref t.a_Lrows)=true
 b_Lrows:Zr K t.d_Lrows ["_law_drawn","_law_names_here","_law_room"] []
 F_Lalike:Fun K "_law_alike" "_law_alike" W5 t.a_Lalike t.d_Lalike
 g_Lalike:mg "_law_alike"=some (.ref t.a_Lalike)
 k_Lalike:PySem.W.keepIn K (.ref t.a_Lalike)=true
 b_Lalike:Zr K t.d_Lalike ["_law_found","_law_due"] []
 F_Lmemory:Fun K "_law_memory" "_law_memory" Xj t.a_Lmemory t.d_Lmemory
 g_Lmemory:mg "_law_memory"=some (.ref t.a_Lmemory)
 k_Lmemory:PySem.W.keepIn K (.ref t.a_Lmemory)=true
 b_Lmemory:Zr K t.d_Lmemory ["_law_drawn","_law_names_here"] []
 F_Lsides:Fun K "_law_sides" "_law_sides" W6 t.a_Lsides t.d_Lsides
 g_Lsides:mg "_law_sides"=some (.ref t.a_Lsides)
 k_Lsides:PySem.W.keepIn K (.ref t.a_Lsides)=true
 b_Lsides:Zr K t.d_Lsides ["_law_memory_here"] []
 F_Lsame:Fun K "_law_same" "_law_same" Wz t.a_Lsame t.d_Lsame
 g_Lsame:mg "_law_same"=some (.ref t.a_Lsame)
 k_Lsame:PySem.W.keepIn K (.ref t.a_Lsame)=true
 b_Lsame:Zr K t.d_Lsame ["_law_found","_law_due"] []
 F_law:Fun K "law" "law" Jg t.a_law t.d_law
 g_law:mg "law"=some (.ref t.a_law)
 k_law:PySem.W.keepIn K (.ref t.a_law)=true
 b_law:Zr K t.d_law ["_law_script"] []
 z_isinstance:mg "isinstance"=none
 z_str:mg "str"=none
 z_tuple:mg "tuple"=none
 z_list:mg "list"=none
 z_dict:mg "dict"=none
 z_enumerate:mg "enumerate"=none
 z_len:mg "len"=none
 z_range:mg "range"=none
 z_max:mg "max"=none
 z_min:mg "min"=none
 z_int:mg "int"=none
 z_bool:mg "bool"=none
 z_sorted:mg "sorted"=none
 g_JumpError:mg "JumpError"=some (.ref t.a_JumpError)
 g_ByNought:mg "ByNought"=some (.ref t.a_ByNought)
 g_TooGreat:mg "TooGreat"=some (.ref t.a_TooGreat)
 mk_ByNought:ExcMk K t.a_ByNought t.a_init
 set_ByNought:ExcSet K t.a_ByNought "row"
 get_ByNought:ExcGet K t.a_ByNought "row"
 is_ByNought:ExcIs K t.a_ByNought
 ca_ByNought:Catch K t.a_ByNought t.a_JumpError true
 co_ByNought:Catch K t.a_ByNought t.a_ByNought true
 kit_ByNought_JumpError:PySem.W.kitOne K (.ref t.a_ByNought) (.ref t.a_JumpError)=some true
 kit_ByNought_ByNought:PySem.W.kitOne K (.ref t.a_ByNought) (.ref t.a_ByNought)=some true
 kit_ByNought_TooGreat:PySem.W.kitOne K (.ref t.a_ByNought) (.ref t.a_TooGreat)=some false
 kit_ByNought:PySem.W.kitOne K (.ref t.a_ByNought) (.type "ValueError")=some true
 mk_TooGreat:ExcMk K t.a_TooGreat t.a_init
 set_TooGreat:ExcSet K t.a_TooGreat "row"
 get_TooGreat:ExcGet K t.a_TooGreat "row"
 is_TooGreat:ExcIs K t.a_TooGreat
 ca_TooGreat:Catch K t.a_TooGreat t.a_JumpError true
 co_TooGreat:Catch K t.a_TooGreat t.a_TooGreat true
 kit_TooGreat_JumpError:PySem.W.kitOne K (.ref t.a_TooGreat) (.ref t.a_JumpError)=some true
 kit_TooGreat_ByNought:PySem.W.kitOne K (.ref t.a_TooGreat) (.ref t.a_ByNought)=some false
 kit_TooGreat_TooGreat:PySem.W.kitOne K (.ref t.a_TooGreat) (.ref t.a_TooGreat)=some true
 kit_TooGreat:PySem.W.kitOne K (.ref t.a_TooGreat) (.type "ValueError")=some true
 i_ok:∀(P:Program) (w:World) (mg:Str→Option Value) (base:Heap),FnOk P w K mg base CX0 1 t.a_init t.d_init ["self","row"] (Qu K)
 i_b1:Zr K t.d_init ["self","row"] [.none]
 i_b0:Zr K t.d_init ["self","row"] []
 q_MOST_NODES:∃tk,mg "MOST_NODES"=some (.int 40 tk)
theorem ents{K:PySem.W.Frag}{mg:Str→Option Value}{t:Adr}(T:Tx K mg t):∀x∈FN,Ent K mg x:=
 all_cons ⟨_,_,_,T.g_quotient,T.k_quotient,T.b_quotient⟩ (all_cons ⟨_,_,_,T.g_rest,T.k_rest,T.b_rest⟩ (all_cons ⟨_,_,_,T.g_made,T.k_made,T.b_made⟩ (all_cons ⟨_,_,_,T.g_holds,T.k_holds,T.b_holds⟩ (all_cons ⟨_,_,_,T.g_worth,T.k_worth,T.b_worth⟩ (all_cons ⟨_,_,_,T.g_deed_of_sum,T.k_deed_of_sum,T.b_deed_of_sum⟩ (all_cons ⟨_,_,_,T.g_deed_of_test,T.k_deed_of_test,T.b_deed_of_test⟩ (all_cons ⟨_,_,_,T.g_ways,T.k_ways,T.b_ways⟩ (all_cons ⟨_,_,_,T.g_with_ways,T.k_with_ways,T.b_with_ways⟩ (all_cons ⟨_,_,_,T.g_walked,T.k_walked,T.b_walked⟩ (all_cons ⟨_,_,_,T.g_numbered,T.k_numbered,T.b_numbered⟩ (all_cons ⟨_,_,_,T.g_behind,T.k_behind,T.b_behind⟩ (all_cons ⟨_,_,_,T.g_deed_of,T.k_deed_of,T.b_deed_of⟩ (all_cons ⟨_,_,_,T.g_run_from,T.k_run_from,T.b_run_from⟩ (all_cons ⟨_,_,_,T.g_run_graph,T.k_run_graph,T.b_run_graph⟩ (all_cons ⟨_,_,_,T.g_landings,T.k_landings,T.b_landings⟩ (all_cons ⟨_,_,_,T.g_linked,T.k_linked,T.b_linked⟩ (all_cons ⟨_,_,_,T.g_graph_of,T.k_graph_of,T.b_graph_of⟩ (all_cons ⟨_,_,_,T.g_run,T.k_run,T.b_run⟩ (all_cons ⟨_,_,_,T.g_Ldraws,T.k_Ldraws,T.b_Ldraws⟩ (all_cons ⟨_,_,_,T.g_Lnext,T.k_Lnext,T.b_Lnext⟩ (all_cons ⟨_,_,_,T.g_Lnames,T.k_Lnames,T.b_Lnames⟩ (all_cons ⟨_,_,_,T.g_Lgreat,T.k_Lgreat,T.b_Lgreat⟩ (all_cons ⟨_,_,_,T.g_Loperand,T.k_Loperand,T.b_Loperand⟩ (all_cons ⟨_,_,_,T.g_Lrow,T.k_Lrow,T.b_Lrow⟩ (all_cons ⟨_,_,_,T.g_Lrows,T.k_Lrows,T.b_Lrows⟩ (all_cons ⟨_,_,_,T.g_Lalike,T.k_Lalike,T.b_Lalike⟩ (all_cons ⟨_,_,_,T.g_Lmemory,T.k_Lmemory,T.b_Lmemory⟩ (all_cons ⟨_,_,_,T.g_Lsides,T.k_Lsides,T.b_Lsides⟩ (all_cons ⟨_,_,_,T.g_Lsame,T.k_Lsame,T.b_Lsame⟩ (all_cons ⟨_,_,_,T.g_law,T.k_law,T.b_law⟩ (all_cons ⟨_,_,_,T.g_run_graph,T.k_run_graph,T.b_run_graph⟩ (all_cons ⟨_,_,_,T.g_run,T.k_run,T.b_run⟩ Z38))))))))))))))))))))))))))))))))
theorem blts{K:PySem.W.Frag}{mg:Str→Option Value}{t:Adr}(T:Tx K mg t):∀x∈BN,mg x=none:=
 all_cons T.z_isinstance (all_cons T.z_str (all_cons T.z_tuple (all_cons T.z_list (all_cons T.z_dict (all_cons T.z_enumerate (all_cons T.z_len (all_cons T.z_range (all_cons T.z_max (all_cons T.z_min (all_cons T.z_int (all_cons T.z_bool (all_cons T.z_sorted Z38))))))))))))
set_option maxHeartbeats 0 in
theorem Y75{K:PySem.W.Frag}{h:Heap}{mg:Str→Option Value}{f0 f1 f2 f3 f4 f5 f6 f7 f8 f9 f10 f11 f12 f13 f14 f15 f16 f17 f18 f19 f20 f21 f22 f23 f24 f25 f26 f27 f28 f29 f30 td14 td18:Addr}(X:K.In h)(G:h.Ns mainGlobals mg)
  {od0 an0 od1 an1 od2 an2 od3 an3 od4 an4 od5 an5 od6 an6 od7 an7 od8 an8 od9 an9 od10 an10 od11 an11 od12 an12 od13 an13 od14 an14 od15 an15 od16 an16 od17 an17 od18 an18 od19 an19 od20 an20 od21 an21 od22 an22 od23 an23 od24 an24 od25 an25 od26 an26 od27 an27 od28 an28 od29 an29 od30 an30:Option Addr} {sl0 sl1 sl2 sl3 sl4 sl5 sl6 sl7 sl8 sl9 sl10 sl11 sl12 sl13 sl14 sl15 sl16 sl17 sl18 sl19 sl20 sl21 sl22 sl23 sl24 sl25 sl26 sl27 sl28 sl29 sl30:Array (Option Value)} {oc0 kV0 dc0 pm0 cd0 ct0 oc1 kV1 dc1 pm1 cd1 ct1 oc2 kV2 dc2 pm2 cd2 ct2 oc3 kV3 dc3 pm3 cd3 ct3 oc4 kV4 dc4 pm4 cd4 ct4 oc5 kV5 dc5 pm5 cd5 ct5 oc6 kV6 dc6 pm6 cd6 ct6 oc7 kV7 dc7 pm7 cd7 ct7 oc8 kV8 dc8 pm8 cd8 ct8 oc9 kV9 dc9 pm9 cd9 ct9 oc10 kV10 dc10 pm10 cd10 ct10 oc11 kV11 dc11 pm11 cd11 ct11 oc12 kV12 dc12 pm12 cd12 ct12 oc13 kV13 dc13 pm13 cd13 ct13 oc14 kV14 dc14 pm14 cd14 ct14 oc15 kV15 dc15 pm15 cd15 ct15 oc16 kV16 dc16 pm16 cd16 ct16 oc17 kV17 dc17 pm17 cd17 ct17 oc18 kV18 dc18 pm18 cd18 ct18 oc19 kV19 dc19 pm19 cd19 ct19 oc20 kV20 dc20 pm20 cd20 ct20 oc21 kV21 dc21 pm21 cd21 ct21 oc22 kV22 dc22 pm22 cd22 ct22 oc23 kV23 dc23 pm23 cd23 ct23 oc24 kV24 dc24 pm24 cd24 ct24 oc25 kV25 dc25 pm25 cd25 ct25 oc26 kV26 dc26 pm26 cd26 ct26 oc27 kV27 dc27 pm27 cd27 ct27 oc28 kV28 dc28 pm28 cd28 ct28 oc29 kV29 dc29 pm29 cd29 ct29 oc30 kV30 dc30 pm30 cd30 ct30:Value}
  (a0:PySem.W.nsIn K mainGlobals "quotient"=some (some (.ref f0))) (l0:K.lookup f0=some ⟨oc0,od0,.func (PySem.W.fnOf "quotient" "quotient" (Zg Yy) (Z5 Yy) (Z2 Yy) .none kV0 dc0 pm0 an0 cd0 ct0),sl0⟩) (c0:PySem.W.codeIn K cd0 "quotient"=true) (k0:PySem.W.keepIn K (.ref f0)=true)
  (a1:PySem.W.nsIn K mainGlobals "rest"=some (some (.ref f1))) (l1:K.lookup f1=some ⟨oc1,od1,.func (PySem.W.fnOf "rest" "rest" (Zg Tm) (Z5 Tm) (Z2 Tm) .none kV1 dc1 pm1 an1 cd1 ct1),sl1⟩) (c1:PySem.W.codeIn K cd1 "rest"=true) (k1:PySem.W.keepIn K (.ref f1)=true)
  (a2:PySem.W.nsIn K mainGlobals "made"=some (some (.ref f2))) (l2:K.lookup f2=some ⟨oc2,od2,.func (PySem.W.fnOf "made" "made" (Zg To) (Z5 To) (Z2 To) .none kV2 dc2 pm2 an2 cd2 ct2),sl2⟩) (c2:PySem.W.codeIn K cd2 "made"=true) (k2:PySem.W.keepIn K (.ref f2)=true)
  (a3:PySem.W.nsIn K mainGlobals "holds"=some (some (.ref f3))) (l3:K.lookup f3=some ⟨oc3,od3,.func (PySem.W.fnOf "holds" "holds" (Zg Ws) (Z5 Ws) (Z2 Ws) .none kV3 dc3 pm3 an3 cd3 ct3),sl3⟩) (c3:PySem.W.codeIn K cd3 "holds"=true) (k3:PySem.W.keepIn K (.ref f3)=true)
  (a4:PySem.W.nsIn K mainGlobals "worth"=some (some (.ref f4))) (l4:K.lookup f4=some ⟨oc4,od4,.func (PySem.W.fnOf "worth" "worth" (Zg Ww) (Z5 Ww) (Z2 Ww) .none kV4 dc4 pm4 an4 cd4 ct4),sl4⟩) (c4:PySem.W.codeIn K cd4 "worth"=true) (k4:PySem.W.keepIn K (.ref f4)=true)
  (a5:PySem.W.nsIn K mainGlobals "deed_of_sum"=some (some (.ref f5))) (l5:K.lookup f5=some ⟨oc5,od5,.func (PySem.W.fnOf "deed_of_sum" "deed_of_sum" (Zg Yg) (Z5 Yg) (Z2 Yg) .none kV5 dc5 pm5 an5 cd5 ct5),sl5⟩) (c5:PySem.W.codeIn K cd5 "deed_of_sum"=true) (k5:PySem.W.keepIn K (.ref f5)=true)
  (a6:PySem.W.nsIn K mainGlobals "deed_of_test"=some (some (.ref f6))) (l6:K.lookup f6=some ⟨oc6,od6,.func (PySem.W.fnOf "deed_of_test" "deed_of_test" (Zg Y4) (Z5 Y4) (Z2 Y4) .none kV6 dc6 pm6 an6 cd6 ct6),sl6⟩) (c6:PySem.W.codeIn K cd6 "deed_of_test"=true) (k6:PySem.W.keepIn K (.ref f6)=true)
  (a7:PySem.W.nsIn K mainGlobals "ways"=some (some (.ref f7))) (l7:K.lookup f7=some ⟨oc7,od7,.func (PySem.W.fnOf "ways" "ways" (Zg S5) (Z5 S5) (Z2 S5) .none kV7 dc7 pm7 an7 cd7 ct7),sl7⟩) (c7:PySem.W.codeIn K cd7 "ways"=true) (k7:PySem.W.keepIn K (.ref f7)=true)
  (a8:PySem.W.nsIn K mainGlobals "with_ways"=some (some (.ref f8))) (l8:K.lookup f8=some ⟨oc8,od8,.func (PySem.W.fnOf "with_ways" "with_ways" (Zg Yo) (Z5 Yo) (Z2 Yo) .none kV8 dc8 pm8 an8 cd8 ct8),sl8⟩) (c8:PySem.W.codeIn K cd8 "with_ways"=true) (k8:PySem.W.keepIn K (.ref f8)=true)
  (a9:PySem.W.nsIn K mainGlobals "walked"=some (some (.ref f9))) (l9:K.lookup f9=some ⟨oc9,od9,.func (PySem.W.fnOf "walked" "walked" (Zg W4) (Z5 W4) (Z2 W4) .none kV9 dc9 pm9 an9 cd9 ct9),sl9⟩) (c9:PySem.W.codeIn K cd9 "walked"=true) (k9:PySem.W.keepIn K (.ref f9)=true)
  (a10:PySem.W.nsIn K mainGlobals "numbered"=some (some (.ref f10))) (l10:K.lookup f10=some ⟨oc10,od10,.func (PySem.W.fnOf "numbered" "numbered" (Zg X5) (Z5 X5) (Z2 X5) .none kV10 dc10 pm10 an10 cd10 ct10),sl10⟩) (c10:PySem.W.codeIn K cd10 "numbered"=true) (k10:PySem.W.keepIn K (.ref f10)=true)
  (a11:PySem.W.nsIn K mainGlobals "behind"=some (some (.ref f11))) (l11:K.lookup f11=some ⟨oc11,od11,.func (PySem.W.fnOf "behind" "behind" (Zg Wa) (Z5 Wa) (Z2 Wa) .none kV11 dc11 pm11 an11 cd11 ct11),sl11⟩) (c11:PySem.W.codeIn K cd11 "behind"=true) (k11:PySem.W.keepIn K (.ref f11)=true)
  (a12:PySem.W.nsIn K mainGlobals "deed_of"=some (some (.ref f12))) (l12:K.lookup f12=some ⟨oc12,od12,.func (PySem.W.fnOf "deed_of" "deed_of" (Zg Xh) (Z5 Xh) (Z2 Xh) .none kV12 dc12 pm12 an12 cd12 ct12),sl12⟩) (c12:PySem.W.codeIn K cd12 "deed_of"=true) (k12:PySem.W.keepIn K (.ref f12)=true)
  (a13:PySem.W.nsIn K mainGlobals "run_from"=some (some (.ref f13))) (l13:K.lookup f13=some ⟨oc13,od13,.func (PySem.W.fnOf "run_from" "run_from" (Zg X4) (Z5 X4) (Z2 X4) .none kV13 dc13 pm13 an13 cd13 ct13),sl13⟩) (c13:PySem.W.codeIn K cd13 "run_from"=true) (k13:PySem.W.keepIn K (.ref f13)=true)
  (a14:PySem.W.nsIn K mainGlobals "run_graph"=some (some (.ref f14))) (l14:K.lookup f14=some ⟨oc14,od14,.func (PySem.W.fnOf "run_graph" "run_graph" (Zg Ym) (Z5 Ym) (Z2 Ym) (.ref td14) kV14 dc14 pm14 an14 cd14 ct14),sl14⟩) (c14:PySem.W.codeIn K cd14 "run_graph"=true) (k14:PySem.W.keepIn K (.ref f14)=true)
  (a15:PySem.W.nsIn K mainGlobals "landings"=some (some (.ref f15))) (l15:K.lookup f15=some ⟨oc15,od15,.func (PySem.W.fnOf "landings" "landings" (Zg Yw) (Z5 Yw) (Z2 Yw) .none kV15 dc15 pm15 an15 cd15 ct15),sl15⟩) (c15:PySem.W.codeIn K cd15 "landings"=true) (k15:PySem.W.keepIn K (.ref f15)=true)
  (a16:PySem.W.nsIn K mainGlobals "linked"=some (some (.ref f16))) (l16:K.lookup f16=some ⟨oc16,od16,.func (PySem.W.fnOf "linked" "linked" (Zg W2) (Z5 W2) (Z2 W2) .none kV16 dc16 pm16 an16 cd16 ct16),sl16⟩) (c16:PySem.W.codeIn K cd16 "linked"=true) (k16:PySem.W.keepIn K (.ref f16)=true)
  (a17:PySem.W.nsIn K mainGlobals "graph_of"=some (some (.ref f17))) (l17:K.lookup f17=some ⟨oc17,od17,.func (PySem.W.fnOf "graph_of" "graph_of" (Zg Yz) (Z5 Yz) (Z2 Yz) .none kV17 dc17 pm17 an17 cd17 ct17),sl17⟩) (c17:PySem.W.codeIn K cd17 "graph_of"=true) (k17:PySem.W.keepIn K (.ref f17)=true)
  (a18:PySem.W.nsIn K mainGlobals "run"=some (some (.ref f18))) (l18:K.lookup f18=some ⟨oc18,od18,.func (PySem.W.fnOf "run" "run" (Zg N6) (Z5 N6) (Z2 N6) (.ref td18) kV18 dc18 pm18 an18 cd18 ct18),sl18⟩) (c18:PySem.W.codeIn K cd18 "run"=true) (k18:PySem.W.keepIn K (.ref f18)=true)
  (a19:PySem.W.nsIn K mainGlobals "_law_draws"=some (some (.ref f19))) (l19:K.lookup f19=some ⟨oc19,od19,.func (PySem.W.fnOf "_law_draws" "_law_draws" (Zg W1) (Z5 W1) (Z2 W1) .none kV19 dc19 pm19 an19 cd19 ct19),sl19⟩) (c19:PySem.W.codeIn K cd19 "_law_draws"=true) (k19:PySem.W.keepIn K (.ref f19)=true)
  (a20:PySem.W.nsIn K mainGlobals "_law_next"=some (some (.ref f20))) (l20:K.lookup f20=some ⟨oc20,od20,.func (PySem.W.fnOf "_law_next" "_law_next" (Zg Wv) (Z5 Wv) (Z2 Wv) .none kV20 dc20 pm20 an20 cd20 ct20),sl20⟩) (c20:PySem.W.codeIn K cd20 "_law_next"=true) (k20:PySem.W.keepIn K (.ref f20)=true)
  (a21:PySem.W.nsIn K mainGlobals "_law_names"=some (some (.ref f21))) (l21:K.lookup f21=some ⟨oc21,od21,.func (PySem.W.fnOf "_law_names" "_law_names" (Zg W3) (Z5 W3) (Z2 W3) .none kV21 dc21 pm21 an21 cd21 ct21),sl21⟩) (c21:PySem.W.codeIn K cd21 "_law_names"=true) (k21:PySem.W.keepIn K (.ref f21)=true)
  (a22:PySem.W.nsIn K mainGlobals "_law_great"=some (some (.ref f22))) (l22:K.lookup f22=some ⟨oc22,od22,.func (PySem.W.fnOf "_law_great" "_law_great" (Zg W9) (Z5 W9) (Z2 W9) .none kV22 dc22 pm22 an22 cd22 ct22),sl22⟩) (c22:PySem.W.codeIn K cd22 "_law_great"=true) (k22:PySem.W.keepIn K (.ref f22)=true)
  (a23:PySem.W.nsIn K mainGlobals "_law_operand"=some (some (.ref f23))) (l23:K.lookup f23=some ⟨oc23,od23,.func (PySem.W.fnOf "_law_operand" "_law_operand" (Zg X0) (Z5 X0) (Z2 X0) .none kV23 dc23 pm23 an23 cd23 ct23),sl23⟩) (c23:PySem.W.codeIn K cd23 "_law_operand"=true) (k23:PySem.W.keepIn K (.ref f23)=true)
  (a24:PySem.W.nsIn K mainGlobals "_law_row"=some (some (.ref f24))) (l24:K.lookup f24=some ⟨oc24,od24,.func (PySem.W.fnOf "_law_row" "_law_row" (Zg Tt) (Z5 Tt) (Z2 Tt) .none kV24 dc24 pm24 an24 cd24 ct24),sl24⟩) (c24:PySem.W.codeIn K cd24 "_law_row"=true) (k24:PySem.W.keepIn K (.ref f24)=true)
  (a25:PySem.W.nsIn K mainGlobals "_law_rows"=some (some (.ref f25))) (l25:K.lookup f25=some ⟨oc25,od25,.func (PySem.W.fnOf "_law_rows" "_law_rows" (Zg Wx) (Z5 Wx) (Z2 Wx) .none kV25 dc25 pm25 an25 cd25 ct25),sl25⟩) (c25:PySem.W.codeIn K cd25 "_law_rows"=true) (k25:PySem.W.keepIn K (.ref f25)=true)
  (a26:PySem.W.nsIn K mainGlobals "_law_alike"=some (some (.ref f26))) (l26:K.lookup f26=some ⟨oc26,od26,.func (PySem.W.fnOf "_law_alike" "_law_alike" (Zg W5) (Z5 W5) (Z2 W5) .none kV26 dc26 pm26 an26 cd26 ct26),sl26⟩) (c26:PySem.W.codeIn K cd26 "_law_alike"=true) (k26:PySem.W.keepIn K (.ref f26)=true)
  (a27:PySem.W.nsIn K mainGlobals "_law_memory"=some (some (.ref f27))) (l27:K.lookup f27=some ⟨oc27,od27,.func (PySem.W.fnOf "_law_memory" "_law_memory" (Zg Xj) (Z5 Xj) (Z2 Xj) .none kV27 dc27 pm27 an27 cd27 ct27),sl27⟩) (c27:PySem.W.codeIn K cd27 "_law_memory"=true) (k27:PySem.W.keepIn K (.ref f27)=true)
  (a28:PySem.W.nsIn K mainGlobals "_law_sides"=some (some (.ref f28))) (l28:K.lookup f28=some ⟨oc28,od28,.func (PySem.W.fnOf "_law_sides" "_law_sides" (Zg W6) (Z5 W6) (Z2 W6) .none kV28 dc28 pm28 an28 cd28 ct28),sl28⟩) (c28:PySem.W.codeIn K cd28 "_law_sides"=true) (k28:PySem.W.keepIn K (.ref f28)=true)
  (a29:PySem.W.nsIn K mainGlobals "_law_same"=some (some (.ref f29))) (l29:K.lookup f29=some ⟨oc29,od29,.func (PySem.W.fnOf "_law_same" "_law_same" (Zg Wz) (Z5 Wz) (Z2 Wz) .none kV29 dc29 pm29 an29 cd29 ct29),sl29⟩) (c29:PySem.W.codeIn K cd29 "_law_same"=true) (k29:PySem.W.keepIn K (.ref f29)=true)
  (a30:PySem.W.nsIn K mainGlobals "law"=some (some (.ref f30))) (l30:K.lookup f30=some ⟨oc30,od30,.func (PySem.W.fnOf "law" "law" (Zg Jg) (Z5 Jg) (Z2 Jg) .none kV30 dc30 pm30 an30 cd30 ct30),sl30⟩) (c30:PySem.W.codeIn K cd30 "law"=true) (k30:PySem.W.keepIn K (.ref f30)=true)
  (z0:PySem.W.nsIn K mainGlobals "isinstance"=some none) (z1:PySem.W.nsIn K mainGlobals "str"=some none) (z2:PySem.W.nsIn K mainGlobals "tuple"=some none) (z3:PySem.W.nsIn K mainGlobals "list"=some none) (z4:PySem.W.nsIn K mainGlobals "dict"=some none) (z5:PySem.W.nsIn K mainGlobals "enumerate"=some none) (z6:PySem.W.nsIn K mainGlobals "len"=some none) (z7:PySem.W.nsIn K mainGlobals "range"=some none) (z8:PySem.W.nsIn K mainGlobals "max"=some none) (z9:PySem.W.nsIn K mainGlobals "min"=some none) (z10:PySem.W.nsIn K mainGlobals "int"=some none) (z11:PySem.W.nsIn K mainGlobals "bool"=some none) (z12:PySem.W.nsIn K mainGlobals "sorted"=some none)
  {c_JumpError c_ByNought c_TooGreat fi Ti:Addr}
  {ocI kVI dcI pmI cdI ctI ocT:Value} {odI anI odT:Option Addr} {slI slT:Array (Option Value)} {nT:Nat}
  (n0:PySem.W.nsIn K mainGlobals "JumpError"=some (some (.ref c_JumpError)))
  (n1:PySem.W.nsIn K mainGlobals "ByNought"=some (some (.ref c_ByNought)))
  (n2:PySem.W.nsIn K mainGlobals "TooGreat"=some (some (.ref c_TooGreat)))
  {nm0 q0:Str} {N0:Addr} {bs0 sub0:List Value} {sn0:List Str} {ab0:Bool} {col0:Option Bool} {dd0:Option Addr} {ka0 kb0 kc0 kd0 ke0:Option Value}
  (xl0:K.lookup c_ByNought=some (excClassObj nm0 q0 c_ByNought N0 bs0 (.ref c_JumpError::vs4) true sn0 sub0 ab0 col0 dd0 ka0 kb0 kc0 kd0 ke0 "ValueError.__new__"))
  (xa0:PySem.W.findIn K (.ref c_ByNought) "__init__"=some (some (.ref fi)))
  (xb0:PySem.W.isFn K (.ref fi)=true)
  (xc0:PySem.W.keepIn K (.ref c_ByNought)=true)
  (xd0:PySem.W.findIn K (.ref c_ByNought) "row"=some none)
  (xe0:PySem.W.findIn K (.ref c_ByNought) "__setattr__"=some (some (.builtin "object.__setattr__")))
  (xf0:PySem.W.findIn K (.ref c_ByNought) "__getattribute__"=some (some (.builtin "BaseException.__getattribute__")))
  (xg0:PySem.W.findIn K (.ref c_ByNought) "__getattr__"=some none)
  (xh0:PySem.W.mroIn K c_ByNought (.type "BaseException")=some true)
  (xi0:PySem.W.findIn K (.ref c_ByNought) "__class__"=some (some (.builtin "object.__class__")))
  (xj0:PySem.W.mroIn K c_ByNought (.type "object")=some true)
  (xk0:PySem.W.mroIn K c_ByNought (.ref c_JumpError)=some true)
  (xm0:PySem.W.typeIn K (.ref c_ByNought)=some (.type "type"))
  (xn0:PySem.W.isClsIn K c_ByNought=true)
  (xo0:PySem.W.mroIn K c_ByNought (.ref c_ByNought)=some true)
  (y0_0:PySem.W.kitOne K (.ref c_ByNought) (.ref c_JumpError)=some true)
  (y0_1:PySem.W.kitOne K (.ref c_ByNought) (.ref c_ByNought)=some true)
  (y0_2:PySem.W.kitOne K (.ref c_ByNought) (.ref c_TooGreat)=some false)
  (y0:PySem.W.kitOne K (.ref c_ByNought) (.type "ValueError")=some true)
  {nm1 q1:Str} {N1:Addr} {bs1 sub1:List Value} {sn1:List Str} {ab1:Bool} {col1:Option Bool} {dd1:Option Addr} {ka1 kb1 kc1 kd1 ke1:Option Value}
  (xl1:K.lookup c_TooGreat=some (excClassObj nm1 q1 c_TooGreat N1 bs1 (.ref c_JumpError::vs4) true sn1 sub1 ab1 col1 dd1 ka1 kb1 kc1 kd1 ke1 "ValueError.__new__"))
  (xa1:PySem.W.findIn K (.ref c_TooGreat) "__init__"=some (some (.ref fi)))
  (xb1:PySem.W.isFn K (.ref fi)=true)
  (xc1:PySem.W.keepIn K (.ref c_TooGreat)=true)
  (xd1:PySem.W.findIn K (.ref c_TooGreat) "row"=some none)
  (xe1:PySem.W.findIn K (.ref c_TooGreat) "__setattr__"=some (some (.builtin "object.__setattr__")))
  (xf1:PySem.W.findIn K (.ref c_TooGreat) "__getattribute__"=some (some (.builtin "BaseException.__getattribute__")))
  (xg1:PySem.W.findIn K (.ref c_TooGreat) "__getattr__"=some none)
  (xh1:PySem.W.mroIn K c_TooGreat (.type "BaseException")=some true)
  (xi1:PySem.W.findIn K (.ref c_TooGreat) "__class__"=some (some (.builtin "object.__class__")))
  (xj1:PySem.W.mroIn K c_TooGreat (.type "object")=some true)
  (xk1:PySem.W.mroIn K c_TooGreat (.ref c_JumpError)=some true)
  (xm1:PySem.W.typeIn K (.ref c_TooGreat)=some (.type "type"))
  (xn1:PySem.W.isClsIn K c_TooGreat=true)
  (xo1:PySem.W.mroIn K c_TooGreat (.ref c_TooGreat)=some true)
  (y1_0:PySem.W.kitOne K (.ref c_TooGreat) (.ref c_JumpError)=some true)
  (y1_1:PySem.W.kitOne K (.ref c_TooGreat) (.ref c_ByNought)=some false)
  (y1_2:PySem.W.kitOne K (.ref c_TooGreat) (.ref c_TooGreat)=some true)
  (y1:PySem.W.kitOne K (.ref c_TooGreat) (.type "ValueError")=some true)
  (w0:PySem.W.specialIn K (.builtin "object.__class__") "__get__"=some (some (.builtin "getset_descriptor.__get__")))
  (w1:PySem.W.takesIn K (.builtin "object.__class__")=some true)
  (w2:PySem.W.typeIn K (.ref c_JumpError)=some (.type "type"))
  (w3:PySem.W.isClsIn K c_JumpError=true)
  (w4:PySem.W.mroIn K c_JumpError (.type "BaseException")=some true)
  (il:K.lookup fi=some ⟨ocI,odI,.func (PySem.W.fnOf "__init__" "JumpError.__init__" (Zg Ov) (Z5 Ov) (Z2 Ov) (.ref Ti) kVI dcI pmI anI cdI ctI),slI⟩) (ic:PySem.W.codeIn K cdI "JumpError.__init__"=true) (it:K.lookup Ti=some ⟨ocT,odT,.seq #[.none] nT,slT⟩)
  {nd14:Nat} {tk14:Tok} {otd14:Value} {odd14:Option Addr} {sld14:Array (Option Value)} (dl14:K.lookup td14=some ⟨otd14,odd14,.seq #[.int 100 tk14] nd14,sld14⟩)
  {nd18:Nat} {tk18:Tok} {otd18:Value} {odd18:Option Addr} {sld18:Array (Option Value)} (dl18:K.lookup td18=some ⟨otd18,odd18,.seq #[.int 100 tk18] nd18,sld18⟩)
  {tq0:Tok} (q0:PySem.W.nsIn K mainGlobals "MOST_NODES"=some (some (.int 40 tq0)))
  :∃t:Adr,Tx K mg t∧t.a_law=f30∧∀(s:Shared) (v:Value),BindsTo s t.d_law ⟨[v],[]⟩ [("_law_script",v)]:=by
 have F0:=Y9 (st:=Yy) l0 c0 k0
 have F1:=Y9 (st:=Tm) l1 c1 k1
 have F2:=Y9 (st:=To) l2 c2 k2
 have F3:=Y9 (st:=Ws) l3 c3 k3
 have F4:=Y9 (st:=Ww) l4 c4 k4
 have F5:=Y9 (st:=Yg) l5 c5 k5
 have F6:=Y9 (st:=Y4) l6 c6 k6
 have F7:=Y9 (st:=S5) l7 c7 k7
 have F8:=Y9 (st:=Yo) l8 c8 k8
 have F9:=Y9 (st:=W4) l9 c9 k9
 have F10:=Y9 (st:=X5) l10 c10 k10
 have F11:=Y9 (st:=Wa) l11 c11 k11
 have F12:=Y9 (st:=Xh) l12 c12 k12
 have F13:=Y9 (st:=X4) l13 c13 k13
 have F14:=Y9 (st:=Ym) l14 c14 k14
 have F15:=Y9 (st:=Yw) l15 c15 k15
 have F16:=Y9 (st:=W2) l16 c16 k16
 have F17:=Y9 (st:=Yz) l17 c17 k17
 have F18:=Y9 (st:=N6) l18 c18 k18
 have F19:=Y9 (st:=W1) l19 c19 k19
 have F20:=Y9 (st:=Wv) l20 c20 k20
 have F21:=Y9 (st:=W3) l21 c21 k21
 have F22:=Y9 (st:=W9) l22 c22 k22
 have F23:=Y9 (st:=X0) l23 c23 k23
 have F24:=Y9 (st:=Tt) l24 c24 k24
 have F25:=Y9 (st:=Wx) l25 c25 k25
 have F26:=Y9 (st:=W5) l26 c26 k26
 have F27:=Y9 (st:=Xj) l27 c27 k27
 have F28:=Y9 (st:=W6) l28 c28 k28
 have F29:=Y9 (st:=Wz) l29 c29 k29
 have F30:=Y9 (st:=Jg) l30 c30 k30
 exact⟨⟨f0,_,f1,_,f2,_,f3,_,f4,_,f5,_,f6,_,f7,_,f8,_,f9,_,f10,_,f11,_,f12,_,f13,_,f14,_,f15,_,f16,_,f17,_,f18,_,f19,_,f20,_,f21,_,f22,_,f23,_,f24,_,f25,_,f26,_,f27,_,f28,_,f29,_,f30,_,c_JumpError,c_ByNought,c_TooGreat,fi,_⟩,⟨F0,PySem.W.mg_of X G a0,k0,.all (Xk (fun _ _=>rfl)),
  F1,PySem.W.mg_of X G a1,k1,.all (Xk (fun _ _=>rfl)),
  F2,PySem.W.mg_of X G a2,k2,.all (Sv (fun _ _ _=>rfl)),
  F3,PySem.W.mg_of X G a3,k3,.all (Sv (fun _ _ _=>rfl)),
  F4,PySem.W.mg_of X G a4,k4,.all (Xk (fun _ _=>rfl)),
  F5,PySem.W.mg_of X G a5,k5,.all (Zx6 (fun _ _ _ _ _=>rfl)),
  F6,PySem.W.mg_of X G a6,k6,.all (Fo (fun _ _ _ _=>rfl)),
  F7,PySem.W.mg_of X G a7,k7,.all (Wq (fun _=>rfl)),
  F8,PySem.W.mg_of X G a8,k8,.all (Xk (fun _ _=>rfl)),
  F9,PySem.W.mg_of X G a9,k9,.all (Xk (fun _ _=>rfl)),
  F10,PySem.W.mg_of X G a10,k10,.all (Xk (fun _ _=>rfl)),
  F11,PySem.W.mg_of X G a11,k11,.all (Sv (fun _ _ _=>rfl)),
  F12,PySem.W.mg_of X G a12,k12,.all (Xk (fun _ _=>rfl)),
  F13,PySem.W.mg_of X G a13,k13,.all (Fo (fun _ _ _ _=>rfl)),
  F14,PySem.W.mg_of X G a14,k14,O9 (n:=3) (fun s KX=>Sv fun _ _ _=>PySem.W.binds_K KX rfl dl14 rfl rfl rfl) rfl,Zo7 (n:=2) (fun s KX v=>Xk fun _ _=>PySem.W.binds_K KX rfl dl14 rfl rfl rfl) rfl,⟨tk14,Jn (n:=2) (fun s KX=>Xk fun _ _=>PySem.W.binds_K KX rfl dl14 rfl rfl rfl) rfl⟩,
  F15,PySem.W.mg_of X G a15,k15,.all (Xk (fun _ _=>rfl)),
  F16,PySem.W.mg_of X G a16,k16,.all (Wq (fun _=>rfl)),
  F17,PySem.W.mg_of X G a17,k17,.all (Wq (fun _=>rfl)),
  F18,PySem.W.mg_of X G a18,k18,O9 (n:=3) (fun s KX=>Sv fun _ _ _=>PySem.W.binds_K KX rfl dl18 rfl rfl rfl) rfl,⟨tk18,Jn (n:=2) (fun s KX=>Xk fun _ _=>PySem.W.binds_K KX rfl dl18 rfl rfl rfl) rfl⟩,
  F19,PySem.W.mg_of X G a19,k19,.all (Wq (fun _=>rfl)),
  F20,PySem.W.mg_of X G a20,k20,.all (Wq (fun _=>rfl)),
  F21,PySem.W.mg_of X G a21,k21,.all (Wq (fun _=>rfl)),
  F22,PySem.W.mg_of X G a22,k22,.all (Wq (fun _=>rfl)),
  F23,PySem.W.mg_of X G a23,k23,.all (Xk (fun _ _=>rfl)),
  F24,PySem.W.mg_of X G a24,k24,.all (Fo (fun _ _ _ _=>rfl)),
  F25,PySem.W.mg_of X G a25,k25,.all (Sv (fun _ _ _=>rfl)),
  F26,PySem.W.mg_of X G a26,k26,.all (Xk (fun _ _=>rfl)),
  F27,PySem.W.mg_of X G a27,k27,.all (Xk (fun _ _=>rfl)),
  F28,PySem.W.mg_of X G a28,k28,.all (Wq (fun _=>rfl)),
  F29,PySem.W.mg_of X G a29,k29,.all (Xk (fun _ _=>rfl)),
  F30,PySem.W.mg_of X G a30,k30,.all (Wq (fun _=>rfl)),
  PySem.W.mg_none_of X G z0,
  PySem.W.mg_none_of X G z1,
  PySem.W.mg_none_of X G z2,
  PySem.W.mg_none_of X G z3,
  PySem.W.mg_none_of X G z4,
  PySem.W.mg_none_of X G z5,
  PySem.W.mg_none_of X G z6,
  PySem.W.mg_none_of X G z7,
  PySem.W.mg_none_of X G z8,
  PySem.W.mg_none_of X G z9,
  PySem.W.mg_none_of X G z10,
  PySem.W.mg_none_of X G z11,
  PySem.W.mg_none_of X G z12,
  PySem.W.mg_of X G n0,
  PySem.W.mg_of X G n1,
  PySem.W.mg_of X G n2,
  E8 xl0 xa0 xb0 xc0,
  Oj xl0 xd0 xe0,
  ⟨(mro4 xl0).imp fun _ h=>⟨h.1,h.2.1⟩,xd0,xf0,xg0,xh0⟩,
  ⟨(mro4 xl0).imp fun _ h=>⟨h.1,h.2.1⟩,xf0,xg0,xh0,xi0,w0,w1,xj0⟩,
  ⟨w2,w3,w4,xk0⟩,
  ⟨xm0,xn0,xh0,xo0⟩,
  y0_0,
  y0_1,
  y0_2,
  y0,
  E8 xl1 xa1 xb1 xc1,
  Oj xl1 xd1 xe1,
  ⟨(mro4 xl1).imp fun _ h=>⟨h.1,h.2.1⟩,xd1,xf1,xg1,xh1⟩,
  ⟨(mro4 xl1).imp fun _ h=>⟨h.1,h.2.1⟩,xf1,xg1,xh1,xi1,w0,w1,xj1⟩,
  ⟨w2,w3,w4,xk1⟩,
  ⟨xm1,xn1,xh1,xo1⟩,
  y1_0,
  y1_1,
  y1_2,
  y1,
  fun P w mg base=>Zt4 il ic Zp5 Zt5 rfl rfl,
  Jn (n:=1) (fun s KX=>Wq fun _=>PySem.W.binds_K KX rfl it rfl rfl rfl) rfl,
  O9 (n:=2) (fun s KX=>Xk fun _ _=>PySem.W.binds_K KX rfl it rfl rfl rfl) rfl,
  ⟨_,PySem.W.mg_of X G q0⟩⟩,rfl,fun s v=> .of_eq rfl⟩
end K16
namespace UB
open PySem PySem.Builtin
theorem Z33(a b:Nat):(a&&&b) % 2=(a % 2) * (b % 2):=by
 have h:=Nat.testBit_and a b 0
 rw[Nat.testBit_zero,Nat.testBit_zero,Nat.testBit_zero,Bool.eq_iff_iff,Bool.and_eq_true,decide_eq_true_iff,decide_eq_true_iff,decide_eq_true_iff] at h
 rcases Nat.mod_two_eq_zero_or_one a with ha | ha<;>rcases Nat.mod_two_eq_zero_or_one b with hb | hb<;>rw[ha,hb] at h ⊢ <;>omega
theorem Za8(a b:Nat):(a ||| b) % 2+(a % 2) * (b % 2)=a % 2+b % 2:=by
 have h:=Nat.testBit_or a b 0
 rw[Nat.testBit_zero,Nat.testBit_zero,Nat.testBit_zero,Bool.eq_iff_iff,Bool.or_eq_true,decide_eq_true_iff,decide_eq_true_iff,decide_eq_true_iff] at h
 rcases Nat.mod_two_eq_zero_or_one a with ha | ha<;>rcases Nat.mod_two_eq_zero_or_one b with hb | hb<;>rw[ha,hb] at h ⊢ <;>omega
theorem Z22(a b:Nat):(a ^^^ b) % 2+2 * ((a % 2) * (b % 2))=a % 2+b % 2:=by
 have h:=Nat.testBit_xor a b 0
 rw[Nat.testBit_zero,Nat.testBit_zero,Nat.testBit_zero] at h
 rcases Nat.mod_two_eq_zero_or_one a with ha | ha<;>rcases Nat.mod_two_eq_zero_or_one b with hb | hb<;>rw[ha,hb] at h ⊢ <;>(first | (have h2:=of_decide_eq_true h;omega) | (have h2:=of_decide_eq_false h;omega))
theorem J0(n:Nat):∀a b:Nat,a<2 ^ n→b<2 ^ n→(a ||| b)+(a&&&b)=a+b∧(a ^^^ b)+2 * (a&&&b)=a+b:=by
 induction n with
 | zero=>
  intro a b ha hb
  have:a=0:=by simpa using ha
  have:b=0:=by simpa using hb
  subst a b
  decide
 | succ n ih=>
  intro a b ha hb
  have h1:a / 2<2 ^ n:=by rw[Nat.pow_succ] at ha;omega
  have h2:b / 2<2 ^ n:=by rw[Nat.pow_succ] at hb;omega
  obtain⟨i1,i2⟩:=ih (a / 2) (b / 2) h1 h2
  have d1:(a&&&b) / 2=a / 2&&&b / 2:=Nat.and_div_two
  have d2:(a ||| b) / 2=a / 2 ||| b / 2:=Nat.or_div_two
  have d3:(a ^^^ b) / 2=a / 2 ^^^ b / 2:=Nat.xor_div_two
  have m1:=Z33 a b
  have m2:=Za8 a b
  have m3:=Z22 a b
  rw[←d1,←d2] at i1
  rw[←d1,←d3] at i2
  generalize (a % 2) * (b % 2)=p at *
  omega
theorem Zy9(a b:Nat):(a ||| b)+(a&&&b)=a+b:=by
 refine(J0 (a+b) a b ?_ ?_).1
 ·exact Nat.lt_of_le_of_lt (Nat.le_add_right a b) Nat.lt_two_pow_self
 ·exact Nat.lt_of_le_of_lt (Nat.le_add_left b a) Nat.lt_two_pow_self
theorem Rl(a b:Nat):(a ^^^ b)+2 * (a&&&b)=a+b:=by
 refine(J0 (a+b) a b ?_ ?_).2
 ·exact Nat.lt_of_le_of_lt (Nat.le_add_right a b) Nat.lt_two_pow_self
 ·exact Nat.lt_of_le_of_lt (Nat.le_add_left b a) Nat.lt_two_pow_self
noncomputable def mag(x:Int):Nat:=if x<0 then(-1 - x).toNat else x.toNat
theorem O8{x:Int}(h:0≤x):mag x=x.toNat:=if_neg (by omega)
theorem Ga{x:Int}(h:x<0):mag x=(bitNot x).toNat:=by
 unfold mag;rw[if_pos h];unfold bitNot;congr 1;omega
theorem Z84{x y:Int}(hx:0≤x)(hy:0≤y):bitAnd x y=((mag x&&&mag y:Nat):Int):=by
 unfold bitAnd;rw[decide_eq_true hx,decide_eq_true hy,O8 hx,O8 hy]
theorem Gv{x y:Int}(hx:0≤x)(hy:y<0):bitAnd x y=((mag x ^^^ (mag x&&&mag y):Nat):Int):=by
 unfold bitAnd;rw[decide_eq_true hx,decide_eq_false (by omega:¬0≤y),←Ga hy]
 show x - ((x.toNat&&&mag y:Nat):Int)=_
 rw[←O8 hx]
 have h:=Rl (mag x) (mag x&&&mag y)
 have e:mag x&&&(mag x&&&mag y)=mag x&&&mag y:=by rw[←Nat.and_assoc,Nat.and_self]
 rw[e] at h
 have:((mag x:Nat):Int)=x:=by rw[O8 hx];omega
 omega
theorem Z65{x y:Int}(hx:x<0)(hy:0≤y):bitAnd x y=((mag y ^^^ (mag y&&&mag x):Nat):Int):=by
 rw[←Gv hy hx]
 unfold bitAnd;rw[decide_eq_true hy,decide_eq_false (by omega:¬0≤x)]
theorem Z58{x y:Int}(hx:x<0)(hy:y<0):bitAnd x y= -1 - ((mag x ||| mag y:Nat):Int):=by
 unfold bitAnd;rw[decide_eq_false (by omega:¬0≤x),decide_eq_false (by omega:¬0≤y),←Ga hx,←Ga hy]
 show bitNot _=_
 unfold bitNot;omega
theorem Wr(x:Int):mag (bitNot x)=mag x:=by
 unfold mag bitNot
 by_cases h:x<0
 ·rw[if_pos h,if_neg (by omega)];congr 1;omega
 ·rw[if_neg h,if_pos (by omega)];congr 1;omega
theorem Y10{x y:Int}(h:(0≤x∧0≤y)∨(x<0∧y<0)):bitXor x y=((mag x ^^^ mag y:Nat):Int):=by
 unfold bitXor bitOr
 have a1:=Zy9 (mag x) (mag y)
 have a2:=Rl (mag x) (mag y)
 rcases h with⟨hx,hy⟩ | ⟨hx,hy⟩
 ·rw[Z58 (x:=bitNot x) (y:=bitNot y) (by unfold bitNot;omega) (by unfold bitNot;omega),Z84 hx hy,Wr,Wr]
  unfold bitNot;omega
 ·rw[Z84 (x:=bitNot x) (y:=bitNot y) (by unfold bitNot;omega) (by unfold bitNot;omega),Z58 hx hy,Wr,Wr]
  unfold bitNot;omega
theorem Y07{x y:Int}(h:(0≤x∧y<0)∨(x<0∧0≤y)):bitXor x y= -1 - ((mag x ^^^ mag y:Nat):Int):=by
 unfold bitXor bitOr
 have a2:=Rl (mag x) (mag y)
 have e:mag y&&&mag x=mag x&&&mag y:=Nat.and_comm _ _
 have h1:=Rl (mag x) (mag x&&&mag y)
 have e1:mag x&&&(mag x&&&mag y)=mag x&&&mag y:=by rw[←Nat.and_assoc,Nat.and_self]
 have h2:=Rl (mag y) (mag x&&&mag y)
 have e2:mag y&&&(mag x&&&mag y)=mag x&&&mag y:=by rw[Nat.and_comm (mag x),←Nat.and_assoc,Nat.and_self]
 rw[e1] at h1
 rw[e2] at h2
 rcases h with⟨hx,hy⟩ | ⟨hx,hy⟩
 ·rw[Z65 (x:=bitNot x) (y:=bitNot y) (by unfold bitNot;omega) (by unfold bitNot;omega),Gv hx hy,Wr,Wr,e]
  unfold bitNot;omega
 ·rw[Gv (x:=bitNot x) (y:=bitNot y) (by unfold bitNot;omega) (by unfold bitNot;omega),Z65 hx hy,Wr,Wr,e]
  unfold bitNot;omega
theorem Ej{x:Int}{n:Nat}(h1:-(2 ^ n:Nat)≤x)(h2:x< (2 ^ n:Nat)):mag x<2 ^ n:=by
 unfold mag;split<;>omega
theorem range_and{x y:Int}{n:Nat}(h1:-(2 ^ n:Nat)≤x)(h2:x< (2 ^ n:Nat))(h3:-(2 ^ n:Nat)≤y)(h4:y< (2 ^ n:Nat)):
  -(2 ^ n:Nat)≤bitAnd x y∧bitAnd x y< (2 ^ n:Nat):=by
 have a:=Ej h1 h2
 have b:=Ej h3 h4
 rcases Int.lt_or_le x 0 with hx | hx<;>rcases Int.lt_or_le y 0 with hy | hy
 ·rw[Z58 hx hy];have:=Nat.or_lt_two_pow a b;omega
 ·rw[Z65 hx hy];have:=Nat.xor_lt_two_pow b (Nat.and_lt_two_pow (mag y) a);omega
 ·rw[Gv hx hy];have:=Nat.xor_lt_two_pow a (Nat.and_lt_two_pow (mag x) b);omega
 ·rw[Z84 hx hy];have:=Nat.and_lt_two_pow (mag x) b;omega
theorem range_xor{x y:Int}{n:Nat}(h1:-(2 ^ n:Nat)≤x)(h2:x< (2 ^ n:Nat))(h3:-(2 ^ n:Nat)≤y)(h4:y< (2 ^ n:Nat)):
  -(2 ^ n:Nat)≤bitXor x y∧bitXor x y< (2 ^ n:Nat):=by
 have a:=Nat.xor_lt_two_pow (Ej h1 h2) (Ej h3 h4)
 rcases Int.lt_or_le x 0 with hx | hx<;>rcases Int.lt_or_le y 0 with hy | hy
 ·rw[Y10 (.inr ⟨hx,hy⟩)];omega
 ·rw[Y07 (.inr ⟨hx,hy⟩)];omega
 ·rw[Y07 (.inl ⟨hx,hy⟩)];omega
 ·rw[Y10 (.inl ⟨hx,hy⟩)];omega
end UB
namespace K16
open PySem PySem.Spec PyProof.Rows L2 L3 U
set_option hygiene false
local macro_rules | `(tactic| walk_at "go")=>do
 let ids:=("tss_nil tss_cons ts te tes teo tit tcd tbop tt op_add_i op_add_s op_add_t op_add_l op_sub_i op_mul_i op_mul_l op_fdiv_i op_mod_i op_pow_i op_and_i op_xor_i cm_lt_i cm_le_i cm_gt_i cm_ge_i cm_eq cm_ne cm_in cm_notin cm_is_n cm_is_i cm_is_s cm_is_b cm_is_t cm_is_r eq_i eq_s eq_b eq_nn eq_is eq_si tru_b tru_i tru_n tru_t ix_t ix_g ix_s sl_s sl_t sl_l is_non is_bl is_int is_str is_tup tyNon tyBl tyInt tyStr tyTup tyLst tyDct bf_len_t bf_len_s bf_is bf_min bf_max bf_list bf_tuple bf_dict bf_sorted at2_xy onRef_r mt_append_r mt_get2_r mt_clearD_r mk_clearD mt_pop_r mt_reverse_r mk_append mk_pop mk_reverse mk_get2 tg_one tg_two it_r it_t it_g key_i key_s in_ss start0 List.map_cons List.map_nil List.length_cons List.length_nil List.cons_append List.nil_append List.append_nil List.replicate List.set_cons_zero List.set_cons_succ List.getElem?_cons_zero List.getElem?_cons_succ Nat.reduceAdd Nat.reduceSub Nat.sub_self Nat.zero_add decide_eq_true_eq ne_eq Int.reduceEq not_false_eq_true true_and Bool.not_eq_true' decide_eq_false_iff_not Bool.false_eq_true Bool.true_eq_false if_true if_false Bool.not_true Bool.not_false".splitOn " ").toArray.map fun s=>Lean.mkIdent s.toName
 let gs ←(Array.range 28).mapM fun i=>`(tactic| try simp only[$(Lean.mkIdent (Lean.Name.mkSimple s!"g{i}")):ident])
 `(tactic| ((try dsimp only[$[$ids:ident],*]);(try simp only[$[$ids:ident],*]);$[$gs:tactic];*))
local macro_rules | `(tactic| walk_at "ev")=>`(tactic| (walk_at "go";repeat (with_reducible refine Xd ?_;walk_at "go")))
def Kp(M M':Z0):Prop:=∃N,M'=M++N
theorem Kp.refl(M:Z0):Kp M M:=⟨[],(List.append_nil M).symm⟩
theorem Kp.app{M M':Z0}(h:Kp M M')(N:Z0):Kp M (M'++N):=by obtain⟨L,rfl⟩:=h;exact⟨L++N,by rw[List.append_assoc]⟩
theorem Kp.trans{M M' M2:Z0}(h:Kp M M')(g:Kp M' M2):Kp M M2:=by obtain⟨L,rfl⟩:=h;obtain⟨L2,rfl⟩:=g;exact⟨L++L2,by rw[List.append_assoc]⟩
theorem Kp.new(M N:Z0):Kp M (M++N):=⟨N,rfl⟩
theorem Kp.L{M M':Z0}{a:Nat}{xs:List D}(h:Kp M M')(e:Za M a=some xs):Za M' a=some xs:=by obtain⟨L,rfl⟩:=h;exact Zb e
theorem Kp.W{M M':Z0}{a:Nat}{xs:List D}(h:Kp M M')(e:Zc M a=some xs):Zc M' a=some xs:=by obtain⟨L,rfl⟩:=h;exact Zs e
theorem qm{i j:Int}(h:0<j):qmod i j=i % j:=Zb7 h
theorem Y05{xs:List D}{i:Int}{d:D}(h0:0≤i)(h:xs[i.toNat]?=some d):atI xs i=some d:=by
 have:=Ps h
 rwa[Int.toNat_of_nonneg h0] at this
theorem Y79{xs:List D}{i:Int}(h0:0≤i)(h:i<xs.length):∃d,atI xs i=some d∧d∈xs:=by
 have hl:i.toNat<xs.length:=by omega
 exact⟨xs[i.toNat],Y05 h0 (List.getElem?_eq_getElem hl),List.getElem_mem hl⟩
inductive Opd where
 | nm (x:Str) | no (i:Int)
noncomputable def Opd.d:Opd→D
 | .nm x=> .str x
 | .no i=> .int i
inductive Nd where
 | sum (x:Str) (a:Opd) (sg:Str) (b:Opd) (t:Nat) | test (a:Opd) (sg:Str) (b:Opd) (y n:Nat) | fin | spin
noncomputable def Nd.d:Nd→D
 | .sum x a sg b t=> .tup [.str "sum",.str x,a.d,.str sg,b.d,.int t]
 | .test a sg b y n=> .tup [.str "test",a.d,.str sg,b.d,.int y,.int n]
 | .fin=> .tup [.str "end"]
 | .spin=> .tup [.str "spin"]
noncomputable def Opd.ok:Opd→Bool
 | .nm x=>PyData.canLay0 (.str x)
 | .no _=>true
noncomputable def Nd.ok:Nd→Bool
 | .sum x a sg b _=>PyData.canLay0 (.str x)&&a.ok&&PyData.canLay0 (.str sg)&&b.ok
 | .test a sg b _ _=>a.ok&&PyData.canLay0 (.str sg)&&b.ok
 | .fin=>true
 | .spin=>true
noncomputable def Nd.gs:Nd→List Nat
 | .sum _ _ _ _ t=>[t]
 | .test _ _ _ y n=>[n,y]
 | .fin=>[]
 | .spin=>[]
noncomputable def Nd.to(f:Nat→Nat):Nd→Nd
 | .sum x a sg b t=> .sum x a sg b (f t)
 | .test a sg b y n=> .test a sg b (f y) (f n)
 | .fin=> .fin
 | .spin=> .spin
theorem Nd.gs_to(f:Nat→Nat)(d:Nd):(d.to f).gs=d.gs.map f:=by cases d<;>rfl
theorem Nd.ok_to(f:Nat→Nat)(d:Nd):(d.to f).ok=d.ok:=by cases d<;>rfl
theorem Nd.gs_two(d:Nd):d.gs.length≤2:=by cases d<;>simp[Nd.gs]
noncomputable def natD(l:List Nat):List D:=l.map fun(x:Nat)=>D.int (x:Int)
theorem Ye(l:List Nat):(natD l).length=l.length:=by unfold natD;simp
theorem Xf{l:List Nat}{k x:Nat}(h:l[k]?=some x):(natD l)[k]?=some (.int x):=by unfold natD;rw[List.getElem?_map,h];rfl
theorem Ze2(l m:List Nat):natD (l++m)=natD l++natD m:=by unfold natD;rw[List.map_append]
noncomputable def wy(gr:List Nd)(k:Nat):List Nat:=match gr[k]? with
 | some d=>d.gs
 | none=>[]
theorem Z11{gr:List Nd}{k:Nat}{d:Nd}(h:gr[k]?=some d):wy gr k=d.gs:=by unfold wy;rw[h]
theorem Z67{gr:List Nd}{k:Nat}{d:Nd}(h:gr[k]?=some d):(gr.map Nd.d)[k]?=some d.d:=by rw[List.getElem?_map,h];rfl
theorem Xw(l:List Nat)(x:Nat):natD (l++[x])=natD l++[.int (x:Nat)]:=Ze2 _ _
noncomputable def gra(raw:List Nd)(O:List Nat):List Nd:=O.map fun x=>(raw.getD x .fin).to fun y=>O.idxOf y
theorem O6(raw:List Nd)(O:List Nat):(gra raw O).length=O.length:=by unfold gra;simp
theorem Gd{raw:List Nd}{O:List Nat}{i x:Nat}{d:Nd}(h:O[i]?=some x)(hd:raw[x]?=some d):(gra raw O)[i]?=some (d.to fun y=>O.idxOf y):=by
 unfold gra
 rw[List.getElem?_map,h,Option.map_some,List.getD_eq_getElem?_getD,hd]
 rfl
theorem X7{α:Type}{l:List α}{i:Nat}{x:α}(h:l[i]?=some x):l.take (i+1)=l.take i++[x]:=by
 obtain⟨h1,h2⟩:=List.getElem?_eq_some_iff.mp h
 rw[←h2]
 exact List.take_succ_eq_append_getElem h1
noncomputable def begD(B:List Nat):List (Key×D):=B.map fun(x:Nat)=>((Sum.inl (x:Int),D.bl true):Key×D)
theorem Oe(B:List Nat):(begD B).length=B.length:=by unfold begD;simp
theorem Ju(B:List Nat)(y:Nat):(valD (begD B) (Sum.inl (y:Int))).isSome=decide (y∈B):=by
 unfold valD begD
 induction B with
 | nil=>rfl
 | cons x r ih=>
  rw[List.map_cons,List.find?_cons]
  by_cases e:x=y
  ·subst e;simp
  ·have:decide ((Sum.inl (x:Int):Key)=Sum.inl (y:Int))=false:=by
    rw[decide_eq_false_iff_not];intro z;exact e (by have:=Sum.inl.inj z;omega)
   rw[this]
   simp only
   rw[ih]
   have e':¬y=x:=fun z=>e z.symm
   simp[e']
theorem O4{B:List Nat}{y:Nat}(h:¬y∈B):putD (begD B) (Sum.inl (y:Int)) (.bl true)=begD (B++[y]):=by
 unfold putD
 rw[if_neg]
 try walk_at "ev"
 ·unfold begD;rw[List.map_append];rfl
 ·intro z
  obtain⟨kv,h1,h2⟩:=List.any_eq_true.mp z
  unfold begD at h1
  obtain⟨x,hx,rfl⟩:=List.mem_map.mp h1
  rw[decide_eq_true_eq] at h2
  have:=Sum.inl.inj h2
  have e:x=y:=by omega
  exact h (e ▸ hx)
noncomputable def opD(b:Nat)(O:List (Nat×Nat×List Nat)):List D:=O.map fun p=> .tup [.int (p.1:Nat),.ref (b+3+p.2.1)]
theorem Z26(b:Nat)(O:List (Nat×Nat×List Nat)):(opD b O).length=O.length:=by unfold opD;simp
theorem V9(b:Nat)(O:List (Nat×Nat×List Nat))(x j:Nat)(r:List Nat):opD b (O++[(x,j,r)])=opD b O++[.tup [.int (x:Nat),.ref (b+3+j)]]:=by unfold opD;rw[List.map_append];rfl
noncomputable def toW(O:List (Nat×Nat×List Nat)):List (Nat×List Nat):=O.reverse.map fun p=>(p.1,p.2.2)
theorem Vs(O:List (Nat×Nat×List Nat))(x j:Nat)(r:List Nat):toW (O++[(x,j,r)])=(x,r)::toW O:=by unfold toW;rw[List.reverse_append];rfl
structure Lay(L:Z0)(O:List (Nat×Nat×List Nat)):Prop where
 at_:∀p∈O,L[p.2.1]?=some (.lst (natD p.2.2.reverse))
 nd:(O.map (·.2.1)).Nodup
theorem Lay.app{L:Z0}{O:List (Nat×Nat×List Nat)}(h:Lay L O)(N:Z0):Lay (L++N) O:=
 ⟨fun p hp=>by have:=h.at_ p hp;rw[List.getElem?_append_left (List.getElem?_eq_some_iff.mp this).1];exact this,h.nd⟩
theorem Lay.init{L:Z0}{O:List (Nat×Nat×List Nat)}{q:Nat×Nat×List Nat}(h:Lay L (O++[q])):Lay L O:=
 ⟨fun p hp=>h.at_ p (List.mem_append_left _ hp),by have:=h.nd;rw[List.map_append] at this;exact(List.nodup_append.mp this).1⟩
theorem Lay.down{L:Z0}{O:List (Nat×Nat×List Nat)}{x j:Nat}{r r':List Nat}(h:Lay L (O++[(x,j,r)])):Lay (L.set j (.lst (natD r'.reverse))) (O++[(x,j,r')]):=by
 have nd:=h.nd
 rw[List.map_append] at nd
 refine⟨fun p hp=>?_,by rw[List.map_append];exact nd⟩
 try walk_at "ev"
 have hj:j<L.length:=(List.getElem?_eq_some_iff.mp (h.at_ (x,j,r) (by simp))).1
 rcases List.mem_append.mp hp with hp | hp
 ·have ne:j≠p.2.1:=fun e=>(List.nodup_append.mp nd).2.2 p.2.1 (List.mem_map.mpr ⟨p,hp,rfl⟩) j (by simp) e.symm
  rw[List.getElem?_set_ne ne]
  exact h.at_ p (List.mem_append_left _ hp)
 ·rw[List.mem_singleton] at hp
  subst hp
  rw[List.getElem?_set_self hj]
theorem Lay.up{L:Z0}{O:List (Nat×Nat×List Nat)}{x:Nat}{r:List Nat}(h:Lay L O):Lay (L++[.lst (natD r.reverse)]) (O++[(x,L.length,r)]):=by
 refine⟨fun p hp=>?_,?_⟩
 ·rcases List.mem_append.mp hp with hp | hp
  ·exact(h.app _).at_ p hp
  ·rw[List.mem_singleton] at hp
   subst hp
   simp
 ·rw[List.map_append]
  refine List.nodup_append.mpr ⟨h.nd,by simp,fun a ha c hc=>?_⟩
  try walk_at "ev"
  obtain⟨p,hp,rfl⟩:=List.mem_map.mp ha
  have:=(List.getElem?_eq_some_iff.mp (h.at_ p hp)).1
  have hc:c=L.length:=by simpa using hc
  omega
theorem Qq{M:Z0}{x y:Nat}{l:List Nat}{B:Bool→Prop}(h1:Za M x=some (natD l))(h2:Za M y=some [])(q:B l.isEmpty):eqD M (.ref x) (.ref y) B:=by
 have pd:∀l:List Nat,PDs M (l.map fun(x:Nat)=>PyData.int (x:Int)) (natD l):=by
  intro l
  induction l with
  | nil=>rfl
  | cons x r ih=>exact⟨_,_,rfl,rfl,ih⟩
 have lay:∀l:List Nat,PyData.canLayAll0 (l.map fun(x:Nat)=>PyData.int (x:Int))=true:=by
  intro l
  induction l with
  | nil=>rw[List.map_nil,PyData.canLayAll0]
  | cons x r ih=>rw[List.map_cons];unfold PyData.canLayAll0;rw[ih];rfl
 refine .inl ⟨.list (l.map fun(x:Nat)=>PyData.int (x:Int)),.list [],⟨x,_,rfl,h1,pd l⟩,⟨y,_,rfl,h2,rfl⟩,lay l,rfl,?_,?_⟩
 ·exact Nat.le_trans (Nat.min_le_right _ _) (by decide)
 ·cases l with
  | nil=>exact q
  | cons p r=>exact q
theorem Oa{α:Type}(xs:List α)(d:α):atI (xs++[d]) (-1)=some d:=by
 have h:ixN (xs++[d]).length (-1)=some xs.length:=by
  unfold ixN
  rw[if_neg (by omega),if_pos (by rw[List.length_append,List.length_singleton];omega)]
  try walk_at "ev"
  congr 1
  rw[List.length_append,List.length_singleton]
  omega
 unfold atI
 rw[h]
 simp
noncomputable def gw(gs:List (List Nat))(y:Nat):List Nat:=(gs.getD y []).reverse
def Zk:DSp:=fun ds M Q _=>∃(a b x:Nat) (gs:List (List Nat)),ds=[.ref a,.ref b]∧Za M a=some (gs.map fun l=> .tup (natD l))∧Za M b=some [.int (x:Nat)]∧x<gs.length∧gs.length≤2000∧(∀l∈gs,l.length≤2∧∀t∈l,t<gs.length)∧
 ∀d M' r,ND.Ends (gw gs) x d→Kp M M'→Zc M' r=some (natD d.reverse)→M.length≤r→Q (.ref r) M'
section
variable{K:PySem.W.Frag}
theorem Z57{Γ G}{M:Z0}{a b x0:Nat}{gs:List (List Nat)}(hr:Za M a=some (gs.map fun l=> .tup (natD l)))(h1:gs.length≤2000)(hg:∀l∈gs,l.length≤2∧∀t∈l,t<gs.length)
  {B F:List Nat} {O:List (Nat×Nat×List Nat)} {x j:Nat} {r:List Nat} {L:Z0} {Q:DK} {C bk:DEnv→Z0→Prop} {d4 d6 d7 d8:Option D} (ok:ND.Ok (gw gs) x0 ⟨B,toW (O++[(x,j,r)]),F⟩) (i:ND.In (· <gs.length) ⟨B,toW (O++[(x,j,r)]),F⟩) (lay:Lay L (O++[(x,j,r)]))
  (q:∀B2 O2 F2 L2 d6 d7 d8,ND.stp (gw gs) ⟨B,toW (O++[(x,j,r)]),F⟩=⟨B2,toW O2,F2⟩→Lay L2 O2→C [some (.ref a),some (.ref b),some (.ref M.length),some (.ref (M.length+1)),d4,some (.ref (M.length+2)),d6,d7,d8] (M++ .dct (begD B2):: .lst (natD F2):: .lst (opD M.length O2)::L2)):
  tss ⟨K,Γ,G⟩ noX Tc {nx:=C,rt:=Q,bk:=bk,ct:=C} [some (.ref a),some (.ref b),some (.ref M.length),some (.ref (M.length+1)),d4,some (.ref (M.length+2)),d6,d7,d8] (M++ .dct (begD B):: .lst (natD F):: .lst (opD M.length (O++[(x,j,r)]))::L):=by
 have rO:∀bb f o N',Za (M++ .dct bb:: .lst f:: .lst o::N') (M.length+2)=some o:=fun bb f o N'=>by rw[Yp];rfl
 have wO:∀bb f o N',Zc (M++ .dct bb:: .lst f:: .lst o::N') (M.length+2)=some o:=fun bb f o N'=>by rw[Yj];rfl
 have rF:∀bb f N',Za (M++ .dct bb:: .lst f::N') (M.length+1)=some f:=fun bb f N'=>by rw[Yp];rfl
 have wF:∀bb f N',Zc (M++ .dct bb:: .lst f::N') (M.length+1)=some f:=fun bb f N'=>by rw[Yj];rfl
 have rB:∀bb N',Zd (M++ .dct bb::N') M.length=some bb:=fun bb N'=>Y0 _ _ _
 have hj:=lay.at_ (x,j,r) (by simp)
 have wJ:∀bb f o N',Zc (M++ .dct bb:: .lst f:: .lst o::(L++N')) (M.length+3+j)=some (natD r.reverse):=fun bb f o N'=>by
  rw[Nat.add_assoc,Yj,Nat.add_comm 3 j]
  show Zc (L++N') j=_
  unfold Zc
  rw[List.getElem?_append_left (List.getElem?_eq_some_iff.mp hj).1,hj]
 simp only[Tc]
 walk_at "ev"
 have last:atI (opD M.length (O++[(x,j,r)])) (-1)=some (.tup [.int (x:Nat),.ref (M.length+3+j)]):=by
  rw[V9];exact Oa _ _
 refine .inl ⟨_,-1,_,rfl,rO _ _ _ _,last,?_⟩
 walk_at "ev"
 rw[List.append_assoc]
 simp only[List.cons_append]
 have el:(M++ .dct (begD B):: .lst (natD F):: .lst (opD M.length (O++[(x,j,r)]))::L).length=M.length+(L.length+3):=by simp
 rw[el]
 have rE:∀bb f o,Za (M++ .dct bb:: .lst f:: .lst o::(L++[.lst []])) (M.length+(L.length+3))=some []:=fun bb f o=>by rw[Yp];exact Zy L _ []
 refine⟨Z1 (by decide),Qq (Z3 (wJ _ _ _ _)) (rE _ _ _) ?_⟩
 try walk_at "ev"
 have room:(toW (O++[(x,j,r)])).length+F.length≤gs.length:=by
  have:=ND.Xi gs.length _ ok.nd fun y hy=>by
   rcases List.mem_append.mp hy with hy | hy
   ·obtain⟨p,hp,rfl⟩:=List.mem_map.mp hy
    exact(i.s p hp).1
   ·exact i.d y hy
  rw[List.length_append,List.length_map] at this
  exact this
 have lw:∀O,(toW O).length=O.length:=fun O=>by unfold toW;simp
 rw[lw,List.length_append,List.length_singleton] at room
 have roomB:B.length≤gs.length:=ND.Xi gs.length B ok.nb i.b
 have tS:=Vs O x j r
 cases r with
 | nil=>
  rw[if_pos (by simp)]
  try walk_at "ev"
  refine⟨Y8 (rF _ _ _),_,wF _ _ _,by rw[Ye];exact Z6 (by omega),?_⟩
  try walk_at "ev"
  rw[Yv,←Xw]
  simp only[List.set_cons_succ,List.set_cons_zero]
  refine⟨Y8 (rO _ _ _ _),_,.tup [.int (x:Nat),.ref (M.length+3+j)],wO _ _ _ _,by rw[V9];simp,?_⟩
  try walk_at "ev"
  rw[Yv,V9,List.dropLast_concat]
  simp only[List.set_cons_succ,List.set_cons_zero]
  exact q B O (F++[x]) _ _ _ _ (by rw[tS];rfl) (lay.init.app _)
 | cons t r=>
  rw[if_neg (by simp)]
  try walk_at "ev"
  have eR:natD (t::r).reverse=natD r.reverse++[.int (t:Nat)]:=by rw[List.reverse_cons];exact Xw _ _
  refine⟨Y8 (Z3 (wJ _ _ _ _)),_,.int (t:Nat),wJ _ _ _ _,by rw[eR];simp,?_⟩
  try walk_at "ev"
  rw[eR,List.dropLast_concat]
  have sJ:∀bb f o c,(M++ .dct bb:: .lst f:: .lst o::(L++[.lst []]):Z0).set (M.length+3+j) c=M++ .dct bb:: .lst f:: .lst o::(L.set j c++[.lst []]):=fun bb f o c=>by
   rw[Nat.add_assoc,Yv,Nat.add_comm 3 j]
   simp only[List.set_cons_succ]
   rw[List.set_append_left _ _ (List.getElem?_eq_some_iff.mp hj).1]
  rw[sJ]
  walk_at "ev"
  have hx:=i.s (x,t::r) (by rw[tS];exact List.mem_cons_self)
  have htn:t<gs.length:=hx.2 t List.mem_cons_self
  have ld:=(lay.down (r':=r)).app [.lst []]
  have eO:opD M.length (O++[(x,j,t::r)])=opD M.length (O++[(x,j,r)]):=by rw[V9,V9]
  rw[eO]
  generalize hL':L.set j (.lst (natD r.reverse))++[.lst []]=L' at ld
  refine .inr ⟨begD B,_,rB _ _,rfl,?_⟩
  try walk_at "ev"
  rw[Ju]
  by_cases hb:t∈B
  ·rw[decide_eq_true hb]
   try dsimp only
   rw[if_neg (by decide)]
   try walk_at "ev"
   exact q B (O++[(x,j,r)]) F _ _ _ _ (by rw[tS,Vs];show(if t∈B then _ else _)=_;rw[if_pos hb]) ld
  ·rw[decide_eq_false hb]
   try dsimp only
   rw[if_pos rfl]
   try walk_at "ev"
   have hB1:(B++[t]).length≤gs.length:=ND.Xi gs.length (B++[t]) (List.nodup_append.mpr ⟨ok.nb,by simp,fun a ha c hc=>by rw[List.mem_singleton] at hc;subst hc;exact fun e=>hb (e ▸ ha)⟩) fun u hu=>by
    rcases List.mem_append.mp hu with hu | hu
    ·exact i.b u hu
    ·rw[List.mem_singleton] at hu;subst hu;exact htn
   rw[List.length_append,List.length_singleton] at hB1
   refine .inr ⟨begD B,_,rB _ _,rfl,by rw[Oe];exact Z6 (by omega),?_⟩
   try walk_at "ev"
   rw[O4 hb,Yt]
   obtain⟨l,hl⟩:∃l,gs[t]?=some l:=⟨_,List.getElem?_eq_getElem htn⟩
   have el2:(M++ .dct (begD (B++[t])):: .lst (natD F):: .lst (opD M.length (O++[(x,j,r)]))::L').length=M.length+3+L'.length:=by simp;omega
   refine⟨Y8 (rO _ _ _ _),ix_l (k:=t) (Zb hr) (by rw[List.getElem?_map,hl];rfl) ⟨natD l,rfl,Z1 (by decide),?_⟩⟩
   rw[List.append_assoc]
   simp only[List.cons_append]
   refine⟨_,wO _ _ _ _,by rw[Z26,List.length_append,List.length_singleton];exact Z6 (by omega),?_⟩
   try walk_at "ev"
   rw[Yv,el2]
   simp only[List.set_cons_succ,List.set_cons_zero]
   have eg:(gw gs t).reverse=l:=by unfold gw;rw[List.reverse_reverse,List.getD_eq_getElem?_getD,hl];rfl
   have eo:opD M.length (O++[(x,j,r)])++[.tup [.int (t:Nat),.ref (M.length+3+L'.length)]]=opD M.length (O++[(x,j,r)]++[(t,L'.length,gw gs t)]):=(V9 _ _ _ _ _).symm
   rw[eo]
   have lu:=ld.up (x:=t) (r:=gw gs t)
   rw[eg] at lu
   exact q (B++[t]) (O++[(x,j,r)]++[(t,L'.length,gw gs t)]) F _ _ _ _ (by rw[tS,Vs,Vs];show(if t∈B then _ else _)=_;rw[if_neg hb]) lu
theorem Y20{gs:List (List Nat)}(hg:∀l∈gs,l.length≤2∧∀t∈l,t<gs.length)(y:Nat):(gw gs y).length≤2∧∀t∈gw gs y,t<gs.length:=by
 unfold gw
 rw[List.getD_eq_getElem?_getD]
 cases e:gs[y]? with
 | none=>simp
 | some l=>
  obtain⟨h1,h2⟩:=hg l (List.mem_of_getElem? e)
  exact⟨by simpa using h1,fun t ht=>h2 t (by simpa using ht)⟩
theorem Zc6{Γ G}:∀ds M Q Z,Zk ds M Q Z→tss ⟨K,Γ,G⟩ noX b_walked {nx:=fun _ M=>Q .non M,rt:=Q} (start0 Sl ds) M:=by
 rintro ds M Q Z ⟨a,b,x,gs,rfl,hr,hb,hx,h1,hg,q⟩
 have two:=Y20 hg
 simp only[b_walked,Sl]
 walk_at "ev"
 rw[List.append_assoc,List.cons_append,List.nil_append,List.length_append,List.length_cons,List.length_nil]
 refine⟨Z1 (by decide),_,Zb hb,?_⟩
 try walk_at "ev"
 refine Rn (fun i σ M'=>(i=0∧σ=[some (.ref a),some (.ref b),some (.ref M.length),some (.ref (M.length+1)),none,none,none,none,none]∧M'=M++[.dct [],.lst []])∨
   (i=1∧∃B F L d4 d5 d6 d7 d8,σ=[some (.ref a),some (.ref b),some (.ref M.length),some (.ref (M.length+1)),d4,d5,d6,d7,d8]∧M'=M++ .dct (begD B):: .lst (natD F)::L∧ND.Ends (gw gs) x F)) (.inl ⟨rfl,rfl,rfl⟩) ?_ ?_ ?_
 ·rintro i σ M' _ (⟨rfl,rfl,rfl⟩ | ⟨rfl,B,F,L,d4,d5,d6,d7,d8,rfl,rfl,_⟩)
  ·exact Zb hb
  ·exact Zb hb
 ·rintro i dx σ M' C hxi (⟨rfl,rfl,rfl⟩ | ⟨rfl,_⟩) hC
  ·cases hxi
   simp only[Ql]
   walk_at "ev"
   have e2:(M++[.dct [],.lst []]:Z0).length=M.length+2:=by simp
   have e1:(M++[.dct [],.lst []]++[.lst []]:Z0)=M++ .dct (begD []):: .lst (natD []):: .lst (opD M.length [])::[]:=by rw[List.append_assoc];rfl
   rw[e1,e2]
   refine⟨Z1 (by decide),.inr ⟨begD [],_,Y0 _ _ _,rfl,?_⟩⟩
   try walk_at "ev"
   rw[Ju,decide_eq_false (by simp)]
   try dsimp only
   rw[if_pos rfl]
   try walk_at "ev"
   obtain⟨l,hl⟩:∃l,gs[x]?=some l:=⟨_,List.getElem?_eq_getElem hx⟩
   refine .inr ⟨begD [],_,Y0 _ _ _,rfl,by rw[Oe];exact Z6 (by simp),?_⟩
   try walk_at "ev"
   rw[O4 (by simp),Yt]
   refine⟨Y8 (by rw[Yp];rfl),ix_l (k:=x) (Zb hr) (by rw[List.getElem?_map,hl];rfl) ⟨natD l,rfl,Z1 (by decide),?_⟩⟩
   rw[List.append_assoc]
   simp only[List.cons_append,List.nil_append]
   refine⟨_,by rw[Yj];rfl,by rw[Z26];exact Z6 (by simp),?_⟩
   try walk_at "ev"
   rw[Yv]
   simp only[List.set_cons_succ,List.set_cons_zero]
   have el2:(M++[.dct (begD [x]),.lst (natD []),.lst (opD M.length [])]:Z0).length=M.length+3+0:=by simp
   rw[el2]
   have eg:(gw gs x).reverse=l:=by unfold gw;rw[List.reverse_reverse,List.getD_eq_getElem?_getD,hl];rfl
   have eo:opD M.length []++[.tup [.int (x:Nat),.ref (M.length+3+0)]]=opD M.length [(x,0,gw gs x)]:=rfl
   rw[eo]
   simp only[Qi]
   walk_at "ev"
   have in0:ND.In (· <gs.length) ⟨[x],[(x,gw gs x)],[]⟩:=⟨fun y hy=>by rw[List.mem_singleton] at hy;subst hy;exact hx,fun p hp=>by rw[List.mem_singleton] at hp;subst hp;exact⟨hx,(two x).2⟩,fun y hy=>by simp at hy⟩
   have inK:∀k,ND.In (· <gs.length) (ND.itr (gw gs) k ⟨[x],[(x,gw gs x)],[]⟩):=fun k=>by
    induction k with
    | zero=>exact in0
    | succ k ih=>exact ih.stp fun y _ t ht=>(two y).2 t ht
   refine⟨fun m σ M'=>∃B O F L d6 d7 d8 k,m=ND.mea gs.length ⟨B,toW O,F⟩∧σ=[some (.ref a),some (.ref b),some (.ref M.length),some (.ref (M.length+1)),some (.int (x:Nat)),some (.ref (M.length+2)),d6,d7,d8]∧M'=M++ .dct (begD B):: .lst (natD F):: .lst (opD M.length O)::L∧ND.itr (gw gs) k ⟨[x],[(x,gw gs x)],[]⟩=⟨B,toW O,F⟩∧Lay L O,
    ⟨_,[x],[(x,0,gw gs x)],[],[.lst (natD l)],none,none,none,0,rfl,rfl,rfl,rfl,by rw[←eg];exact⟨fun p hp=>by rw[List.mem_singleton] at hp;subst hp;rfl,by simp⟩⟩,?_⟩
   rintro m σ M' ⟨B,O,F,L,d6,d7,d8,k,rfl,rfl,rfl,ek,lay⟩
   walk_at "ev"
   have ok:=(ND.Ok.begin (gw gs) x).itr k
   have inn:=inK k
   rw[ek] at ok inn
   refine .inl ⟨opD M.length O,by rw[Yp];rfl,?_⟩
   try walk_at "ev"
   try dsimp only
   by_cases hO:O=[]
   ·subst hO
    rw[if_neg (by simp[opD])]
    try walk_at "ev"
    exact hC _ _ (.inr ⟨rfl,B,F,_,_,_,_,_,_,rfl,rfl,k,B,ek⟩)
   ·have hne:(!(opD M.length O).isEmpty)=true:=by
     cases O with
     | nil=>exact absurd rfl hO
     | cons _ _=>rfl
    rw[if_pos (by simpa using hne)]
    try walk_at "ev"
    obtain⟨O',⟨y,j,r⟩,rfl⟩:∃O' p,O=O'++[p]:=⟨O.dropLast,O.getLast hO,(List.dropLast_concat_getLast hO).symm⟩
    refine Z57 hr h1 hg ok inn lay fun B2 O2 F2 L2 d6 d7 d8 es lay2=>?_
    try walk_at "ev"
    refine⟨ND.mea gs.length ⟨B2,toW O2,F2⟩,?_,B2,O2,F2,L2,d6,d7,d8,k+1,rfl,rfl,rfl,?_,lay2⟩
    ·rw[←es]
     exact ND.Zr5 ok inn (fun y=>(two y).1) (by rw[Vs];simp)
    ·show ND.stp (gw gs) (ND.itr (gw gs) k _)=_
     rw[ek,es]
  ·simp at hxi
 ·rintro σ M' (⟨h,_⟩ | ⟨_,B,F,L,d4,d5,d6,d7,d8,rfl,rfl,en⟩)
  ·simp at h
  ·simp only[Qe]
   walk_at "ev"
   have wF:Zc (M++ .dct (begD B):: .lst (natD F)::L) (M.length+1)=some (natD F):=by rw[Yj];rfl
   refine⟨Y8 (Z3 wF),_,wF,?_⟩
   try walk_at "ev"
   rw[Yv]
   simp only[List.set_cons_succ,List.set_cons_zero]
   refine q F _ _ en (Kp.new _ _) ?_ (by omega)
   try walk_at "ev"
   rw[Yj]
   show some (natD F).reverse=_
   unfold natD
   rw[List.map_reverse]
end
def Y6:DSp:=fun ds M Q _=>∃d:Nd,ds=[d.d]∧Q (.tup (natD d.gs.reverse)) M
def Yd:DSp:=fun ds M Q _=>∃(d:Nd) (f:Nat→Nat) (g:Nat),ds=[d.d,.ref g]∧Za M g=some (natD (d.gs.reverse.map f))∧Q (d.to f).d M
def Z9:DSp:=fun ds M Q _=>∃(a b:Nat) (nds:List Nd) (O:List Nat),ds=[.ref a,.ref b]∧Za M a=some (nds.map Nd.d)∧Za M b=some (natD O)∧O.Nodup∧O.length≤2000∧(∀x∈O,x<nds.length)∧(∀x∈O,∀t∈wy nds x,t∈O)∧
 ∀M' r,Kp M M'→Zc M' r=some ((gra nds O).map Nd.d)→M.length≤r→Q (.ref r) M'
noncomputable def numP(O:List Nat):List (Key×D):=O.mapIdx fun i (x:Nat)=>((Sum.inl (x:Int),D.int (i:Nat)):Key×D)
theorem Rx(O:List Nat)(y:Nat):numP (O++[y])=numP O++[(Sum.inl (y:Int),D.int (O.length:Nat))]:=by unfold numP;rw[List.mapIdx_append];simp
theorem S8(O:List Nat):(numP O).length=O.length:=by unfold numP;simp
theorem T7(m:List (Key×D))(k j:Key)(v:D):valD (putD m k v) j=if k=j then some v else valD m j:=by
 unfold putD
 split
 ·rename_i h
  unfold valD
  induction m with
  | nil=>simp at h
  | cons p r ih=>
   rw[List.map_cons,List.find?_cons,List.find?_cons]
   by_cases hp:p.1=k
   ·rw[if_pos hp]
    try walk_at "ev"
    by_cases hj:k=j
    ·subst hj;simp[hp]
    ·have:decide (p.1=j)=false:=by rw[decide_eq_false_iff_not,hp];exact hj
     simp only[this]
     rw[if_neg hj]
     try walk_at "ev"
     by_cases hr:(r.any fun kv=>decide (kv.1=k))=true
     ·have:=ih hr;rw[if_neg hj] at this;exact this
     ·have hn:r.map (fun kv=>if kv.1=k then(kv.1,v) else kv)=r:=by
       rw[List.map_congr_left (g:=id)]
       ·simp
       ·intro kv hkv
        rw[if_neg]
        try walk_at "ev"
        ·rfl
        ·intro z;exact hr (List.any_eq_true.mpr ⟨kv,hkv,by simpa using z⟩)
      rw[hn]
   ·rw[if_neg hp]
    try walk_at "ev"
    have hr:(r.any fun kv=>decide (kv.1=k))=true:=by simpa[hp] using h
    by_cases hj:p.1=j
    ·have:¬k=j:=fun z=>hp (hj.trans z.symm)
     simp[hj,this]
    ·simp only[hj,decide_false]
     exact ih hr
 ·rename_i h
  unfold valD
  rw[List.find?_append]
  by_cases hj:k=j
  ·subst hj
   have:m.find? (fun kv=>decide (kv.1=k))=none:=by
    rw[List.find?_eq_none]
    intro kv hkv z
    exact h (List.any_eq_true.mpr ⟨kv,hkv,z⟩)
   rw[this]
   simp
  ·rw[if_neg hj]
   try walk_at "ev"
   simp[hj]
theorem Cr(ps:List (Key×D))(p:Key×D):Vi (ps++[p])=putD (Vi ps) p.1 p.2:=by unfold Vi;rw[List.foldl_append];rfl
theorem Pq:∀(n:Nat) (O:List Nat),O.length=n→O.Nodup→∀x∈O,valD (Vi (numP O)) (Sum.inl (x:Int))=some (.int (O.idxOf x:Nat))
 | 0,O,h,_,x,hx=>by rw[List.length_eq_zero_iff.mp h] at hx;cases hx
 | n+1,O,h,nd,x,hx=>by
  have hne:O≠[]:=by rintro rfl;cases h
  obtain⟨O',y,rfl⟩:∃O' y,O=O'++[y]:=⟨O.dropLast,O.getLast hne,(List.dropLast_concat_getLast hne).symm⟩
  rw[List.length_append,List.length_singleton] at h
  have nd':=List.nodup_append.mp nd
  rw[Rx,Cr,T7]
  by_cases e:y=x
  ·subst e
   rw[if_pos rfl]
   try walk_at "ev"
   have hn:y∉O':=fun z=>nd'.2.2 y z y (by simp) rfl
   rw[List.idxOf_append,if_neg hn]
   simp
  ·rw[if_neg (fun z=>e (by have:=Sum.inl.inj z;omega))]
   try walk_at "ev"
   have hx':x∈O':=(List.mem_append.mp hx).resolve_right (by rw[List.mem_singleton];exact fun z=>e z.symm)
   rw[Pq n O' (by omega) nd'.1 x hx',List.idxOf_append,if_pos hx']
theorem Pz{xs:List D}{i:Nat}{d:D}(h:(N9 xs)[i]?=some d):∃x,xs[i]?=some x∧d= .tup [.int (i:Nat),x]:=by
 unfold N9 at h
 rw[List.getElem?_mapIdx,Option.map_eq_some_iff] at h
 obtain⟨x,h1,rfl⟩:=h
 exact⟨x,h1,rfl⟩
theorem Ob(xs:List D):(N9 xs).length=xs.length:=by unfold N9;simp
section
variable{K:PySem.W.Frag}
theorem Zu9{Γ G}:∀ds M Q Z,Y6 ds M Q Z→tss ⟨K,Γ,G⟩ noX b_ways {nx:=fun _ M=>Q .non M,rt:=Q} (start0 Ev ds) M:=by
 rintro ds M Q Z ⟨d,rfl,q⟩
 simp only[b_ways,Ev]
 try walk_at "ev"
 cases d with
 | sum x a sg b t=>
  simp only[Nd.d]
  walk_at "ev"
  refine⟨_,rfl,?_⟩
  walk_at "ev"
  exact⟨_,rfl,Z1 (by decide),q⟩
 | test a sg b y n=>
  simp only[Nd.d]
  walk_at "ev"
  refine⟨_,rfl,?_⟩
  walk_at "ev"
  rw[if_neg (by decide+kernel)]
  try walk_at "ev"
  simp only[Sk]
  walk_at "ev"
  refine⟨_,rfl,?_⟩
  walk_at "ev"
  exact⟨_,rfl,_,rfl,Z1 (by decide),q⟩
 | fin=>
  simp only[Nd.d]
  walk_at "ev"
  refine⟨_,rfl,?_⟩
  walk_at "ev"
  rw[if_neg (by decide+kernel)]
  try walk_at "ev"
  simp only[Sk]
  walk_at "ev"
  refine⟨_,rfl,?_⟩
  walk_at "ev"
  rw[if_neg (by decide+kernel)]
  try walk_at "ev"
  simp only[Pw]
  walk_at "ev"
  exact⟨Z1 (by decide),q⟩
 | spin=>
  simp only[Nd.d]
  walk_at "ev"
  refine⟨_,rfl,?_⟩
  walk_at "ev"
  rw[if_neg (by decide+kernel)]
  try walk_at "ev"
  simp only[Sk]
  walk_at "ev"
  refine⟨_,rfl,?_⟩
  walk_at "ev"
  rw[if_neg (by decide+kernel)]
  try walk_at "ev"
  simp only[Pw]
  walk_at "ev"
  exact⟨Z1 (by decide),q⟩
theorem Zv4{Γ G}:∀ds M Q Z,Yd ds M Q Z→tss ⟨K,Γ,G⟩ noX b_with_ways {nx:=fun _ M=>Q .non M,rt:=Q} (start0 Wn ds) M:=by
 rintro ds M Q Z ⟨d,f,g,rfl,hg,q⟩
 simp only[b_with_ways,Wn]
 try walk_at "ev"
 cases d with
 | sum x a sg b t=>
  simp only[Nd.d]
  walk_at "ev"
  refine⟨_,rfl,?_⟩
  walk_at "ev"
  rw[show U.cutD [.str "sum",.str x,a.d,.str sg,b.d,.int t] none (some 5)=[.str "sum",.str x,a.d,.str sg,b.d] from rfl]
  refine⟨by decide,_,hg,by simp[Nd.gs,natD],Z1 (by simp[Nd.gs,natD]),q⟩
 | test a sg b y n=>
  simp only[Nd.d]
  walk_at "ev"
  refine⟨_,rfl,?_⟩
  walk_at "ev"
  rw[if_neg (by decide+kernel)]
  try walk_at "ev"
  simp only[Xr]
  walk_at "ev"
  refine⟨_,rfl,?_⟩
  walk_at "ev"
  rw[show U.cutD [.str "test",a.d,.str sg,b.d,.int y,.int n] none (some 4)=[.str "test",a.d,.str sg,b.d] from rfl]
  refine⟨by decide,_,hg,by simp[Nd.gs,natD],Z1 (by simp[Nd.gs,natD]),q⟩
 | fin=>
  simp only[Nd.d]
  walk_at "ev"
  refine⟨_,rfl,?_⟩
  walk_at "ev"
  rw[if_neg (by decide+kernel)]
  try walk_at "ev"
  simp only[Xr]
  walk_at "ev"
  refine⟨_,rfl,?_⟩
  walk_at "ev"
  rw[if_neg (by decide+kernel)]
  try walk_at "ev"
  simp only[Wo]
  walk_at "ev"
  exact q
 | spin=>
  simp only[Nd.d]
  walk_at "ev"
  refine⟨_,rfl,?_⟩
  walk_at "ev"
  rw[if_neg (by decide+kernel)]
  try walk_at "ev"
  simp only[Xr]
  walk_at "ev"
  refine⟨_,rfl,?_⟩
  walk_at "ev"
  rw[if_neg (by decide+kernel)]
  try walk_at "ev"
  simp only[Wo]
  walk_at "ev"
  exact q
theorem B4{Γ G}(g0:Γ[7]?=some Y6)(g1:Γ[8]?=some Yd):∀ds M Q Z,Z9 ds M Q Z→tss ⟨K,Γ,G⟩ noX b_numbered {nx:=fun _ M=>Q .non M,rt:=Q} (start0 Vd ds) M:=by
 rintro ds M Q Z ⟨a,b,nds,O,rfl,ha,hb,nd,hl,hlt,hcl,q⟩
 simp only[b_numbered,Vd]
 walk_at "ev"
 refine⟨_,hb,?_⟩
 try walk_at "ev"
 simp only[capD,List.map_cons,List.map_nil,Option.bind_none,Option.bind_some,List.getElem?_cons_zero,List.getElem?_cons_succ,Option.join_some]
 refine Wi (fun i σ M'=>∃d1 d2,σ=[d1,d2]∧M'=M++[.lst (Xv (numP (O.take i)))]) ⟨none,none,rfl,rfl⟩ ?_ ?_ ?_
 ·rintro i σ M' _ ⟨d1,d2,rfl,rfl⟩
  exact⟨_,Zb hb,rfl⟩
 ·rintro i dx σ M' C hx ⟨d1,d2,rfl,rfl⟩ hC
  obtain⟨y,hy,rfl⟩:=Pz hx
  have hi:i<O.length:=by have:=(List.getElem?_eq_some_iff.mp hy).1;rwa[Ye] at this
  have hgi:O[i]?=some O[i]:=List.getElem?_eq_getElem hi
  generalize O[i]=z at hgi
  rw[Xf hgi] at hy
  cases hy
  walk_at "ev"
  refine⟨Z1 (by decide),_,Zu _ _ [],by unfold U.Xv;rw[List.length_map,S8,List.length_take];exact Z6 (by omega),?_⟩
  try walk_at "ev"
  rw[Yt]
  refine hC _ _ ⟨_,_,rfl,?_⟩
  try walk_at "ev"
  rw[X7 hgi,Rx,List.length_take,Nat.min_eq_left (by omega)]
  unfold U.Xv
  rw[List.map_append]
  rfl
 ·rintro σ M' ⟨d1,d2,rfl,rfl⟩
  rw[Ob,Ye,List.take_length]
  try walk_at "ev"
  refine .inr ⟨numP O,Zy _ _ [],by rw[S8];exact Z6 (by omega),?_⟩
  try walk_at "ev"
  have k1:Kp M (M++[.lst (U.Xv (numP O))]++[.dct (Vi (numP O))]):=(Kp.new _ _).app _
  have hd1:Zd (M++[.lst (U.Xv (numP O))]++[.dct (Vi (numP O))]) (M++[Cell.lst (U.Xv (numP O))]:Z0).length=some (Vi (numP O)):=Y0 _ _ []
  generalize M++[.lst (U.Xv (numP O))]++[.dct (Vi (numP O))]=M1 at k1 hd1
  generalize (M++[Cell.lst (U.Xv (numP O))]:Z0).length=nn at hd1
  have ha1:=k1.L ha
  have hb1:=k1.L hb
  refine⟨_,hb1,?_⟩
  try walk_at "ev"
  refine Wi (fun i σ M'=>∃d1 N,σ=[d1,some (.ref a),some (.ref nn)]∧M'=M1++ .lst (((gra nds O).take i).map Nd.d)::N) ⟨none,[],rfl,rfl⟩ ?_ ?_ ?_
  ·rintro i σ M' _ ⟨d1,N,rfl,rfl⟩
   exact Zb hb1
  ·rintro i dx σ M' C hx ⟨d1,N,rfl,rfl⟩ hC
   have hi:i<O.length:=by have:=(List.getElem?_eq_some_iff.mp hx).1;rwa[Ye] at this
   have hgi:O[i]?=some O[i]:=List.getElem?_eq_getElem hi
   generalize O[i]=x at hgi
   rw[Xf hgi] at hx
   cases hx
   have hxO:=List.mem_of_getElem? hgi
   obtain⟨d,hd⟩:∃d,nds[x]?=some d:=⟨_,List.getElem?_eq_getElem (hlt x hxO)⟩
   have two:=d.gs_two
   walk_at "ev"
   refine ix_l (Zb ha1) (Z67 hd) (ix_l (Zb ha1) (Z67 hd) ?_)
   try walk_at "ev"
   try simp only[g0,g1]
   refine⟨d,rfl,?_⟩
   walk_at "ev"
   rw[List.append_assoc]
   simp only[List.cons_append]
   have el:(M1++ .lst (((gra nds O).take i).map Nd.d)::N).length=M1.length+(N.length+1):=by simp
   rw[el]
   refine Wi (fun j σ M'=>∃d1,σ=[d1,some (.ref nn)]∧M'=M1++ .lst (((gra nds O).take i).map Nd.d)::(N++[.lst (natD ((d.gs.reverse.take j).map fun y=>O.idxOf y))])) ⟨none,rfl,rfl⟩ (fun _ _ _ _ _=>trivial) ?_ ?_
   ·rintro j dx σ M' C2 hx ⟨d1,rfl,rfl⟩ hC2
    have hj:j<d.gs.reverse.length:=by have:=(List.getElem?_eq_some_iff.mp hx).1;rwa[Ye] at this
    have hgj:d.gs.reverse[j]?=some d.gs.reverse[j]:=List.getElem?_eq_getElem hj
    generalize d.gs.reverse[j]=y at hgj
    rw[Xf hgj] at hx
    cases hx
    have hyO:y∈O:=hcl x hxO y (by rw[Z11 hd];exact List.mem_reverse.mp (List.mem_of_getElem? hgj))
    walk_at "ev"
    refine ix_d (X6 hd1) rfl (Pq _ O rfl nd y hyO) ?_
    try walk_at "ev"
    have rd:∀c,Zc (M1++ .lst (((gra nds O).take i).map Nd.d)::(N++[.lst c])) (M1.length+(N.length+1))=some c:=fun c=>by rw[Yj];exact Zu N _ []
    refine⟨_,rd _,by rw[Ye,List.length_map,List.length_take];rw[List.length_reverse] at hj ⊢;exact Z6 (by omega),?_⟩
    try walk_at "ev"
    rw[Yv,List.set_cons_succ,Yt,←Xw]
    refine hC2 _ _ ⟨_,rfl,?_⟩
    try walk_at "ev"
    rw[X7 hgj,List.map_append]
    rfl
   ·rintro σ M' ⟨d1,rfl,rfl⟩
    rw[Ye,List.take_length]
    refine⟨d,fun y=>O.idxOf y,_,rfl,by rw[Yp];exact Zy N _ [],?_⟩
    try walk_at "ev"
    refine⟨_,Zu _ _ _,by rw[List.length_map,List.length_take,O6];exact Z6 (by omega),?_⟩
    try walk_at "ev"
    rw[Yt]
    refine hC _ _ ⟨_,N++[.lst (natD (d.gs.reverse.map fun y=>O.idxOf y))],rfl,?_⟩
    try walk_at "ev"
    rw[X7 (Gd hgi hd),List.map_append]
    rfl
  ·rintro σ M' ⟨d1,N,rfl,rfl⟩
   try walk_at "ev"
   refine q _ _ (k1.app _) ?_ ?_
   ·rw[Ye,←O6 nds O,List.take_length]
    exact Zu _ _ _
   ·obtain⟨X,rfl⟩:=k1;rw[List.length_append];omega
end
inductive Rw where
 | sum (k:Nat) (x:Str) (a:Opd) (sg:Str) (b:Opd) | test (k:Nat) (a:Opd) (sg:Str) (b:Opd) (g:Nat) | jump (k g:Nat) | fin (k:Nat)
noncomputable def Rw.d:Rw→D
 | .sum k x a sg b=> .tup [.int k,.str "sum",.str x,a.d,.str sg,b.d]
 | .test k a sg b g=> .tup [.int k,.str "test",a.d,.str sg,b.d,.int g]
 | .jump k g=> .tup [.int k,.str "jump",.int g]
 | .fin k=> .tup [.int k,.str "end"]
def JOf(rows:List Rw)(pl:List (Key×D))(J:Nat→Option Nat):Prop:=∀p r,rows[p]?=some r→match r with
 | Rw.jump _ g=>∃q,J p=some q∧q<rows.length∧valD pl (Sum.inl (g:Int))=some (D.int (q:Nat))
 | _=>J p=none
def LanD(kvs:List (Key×D))(m:Nat→Option Nat):Prop:=∀p:Nat,valD kvs (Sum.inl (p:Int))=(m p).map fun(g:Nat)=>D.int (g:Int)
theorem LanD.put{kvs:List (Key×D)}{m:Nat→Option Nat}(h:LanD kvs m)(p g:Nat):LanD (putD kvs (Sum.inl (p:Int)) (.int (g:Nat))) (fun x=>if x=p then some g else m x):=by
 intro x
 rw[T7]
 by_cases e:x=p
 ·subst e;rw[if_pos rfl];show _=Option.map _ (if x=x then some g else m x);rw[if_pos rfl];rfl
 ·rw[if_neg (fun z=>e (by have:=Sum.inl.inj z;omega))];show _=Option.map _ (if x=p then some g else m x);rw[if_neg e];exact h x
  try walk_at "ev"
theorem Eh(m:List (Key×D))(k:Key)(v:D):(putD m k v).length≤m.length+1:=by
 unfold putD
 split
 ·rw[List.length_map];omega
 ·rw[List.length_append,List.length_singleton];exact Nat.le_refl _
def Zi:DSp:=fun ds M Q _=>∃(a b:Nat) (rows:List Rw) (pl:List (Key×D)) (J:Nat→Option Nat),ds=[.ref a,.ref b]∧Za M a=some (rows.map Rw.d)∧Zd M b=some pl∧rows.length≤2000∧JOf rows pl J∧
 ∀kvs m M',LanD kvs m→LN.Ln J rows.length m→(∀p,p<rows.length→(m p).isSome=true)→Kp M M'→Zd M' M.length=some kvs→Q (.ref M.length) M'
theorem C8{α:Type}{o:Option α}{x:α}(h:o=some x):o.isSome=true:=by rw[h];rfl
theorem Ze0(M N:Z0)(k:Nat):(M++N)[M.length+k]?=N[k]?:=by rw[List.getElem?_append_right (by omega),Nat.add_sub_cancel_left]
section
variable{K:PySem.W.Frag}
theorem Ew{Γ G}:∀ds M Q Z,Zi ds M Q Z→tss ⟨K,Γ,G⟩ noX b_landings {nx:=fun _ M=>Q .non M,rt:=Q} (start0 V7 ds) M:=by
 rintro ds M Q Z ⟨a,b,rows,pl,J,rfl,ha,hb,hn,hJ,q⟩
 simp only[b_landings,V7]
 walk_at "ev"
 refine Yu (Zb ha) ⟨by omega,by rw[List.length_map];omega,?_⟩
 try walk_at "ev"
 rw[Int.toNat_natCast,List.length_map]
 refine Sn (fun i σ M'=>∃kvs m N d3 d4 d5 d6 d7,σ=[some (.ref a),some (.ref b),some (.ref M.length),d3,d4,d5,d6,d7]∧M'=M++ .dct kvs::N∧LanD kvs m∧LN.Ln J rows.length m∧(∀p,p<i→(m p).isSome=true)∧kvs.length≤i * 3000)
  ⟨[],fun _=>none,[],none,none,none,none,none,rfl,rfl,fun p=>rfl,(fun p g h=>by cases h),(fun p h=>by omega),Nat.zero_le _⟩ ?_ ?_
 ·rintro i σ M' C hi ⟨kvs,m,N,d3,d4,d5,d6,d7,rfl,rfl,lan,ln,tot,hk⟩ hC
  have hrow:∀p,p<rows.length→∃r,rows[p]?=some r:=fun p hp=>⟨_,List.getElem?_eq_getElem hp⟩
  simp only[Tp,Int.zero_add]
  walk_at "ev"
  rw[List.append_assoc,List.cons_append]
  have el:(M++ .dct kvs::N).length=M.length+(N.length+1):=by simp
  rw[el]
  have rdP:∀kv c,Zd (M++ .dct kv::(N++[.dct c])) (M.length+(N.length+1))=some c:=fun kv c=>by rw[B3];exact Y0 N _ []
  have rdL:∀kv N',Zd (M++ .dct kv::N') M.length=some kv:=fun kv N'=>Y0 _ _ _
  refine⟨fun w σ M'=>∃(P:List Nat) (p:Nat),w=rows.length - P.length∧σ=[some (.ref a),some (.ref b),some (.ref M.length),some (.int (i:Nat)),some (.ref (M.length+(N.length+1))),some (.int (p:Nat)),d6,d7]∧M'=M++ .dct kvs::(N++[.dct (begD P)])∧LN.Lk J i P p∧P.Nodup∧(∀x∈P,x<rows.length∧m x=none)∧p<rows.length,
   ⟨_,[],i,rfl,rfl,rfl,rfl,by simp,by simp,hi⟩,?_⟩
  rintro w σ M' ⟨P,p,rfl,rfl,rfl,lk,nd,hP,hp⟩
  have hPl:P.length≤rows.length:=ND.Xi rows.length P nd fun x hx=>(hP x hx).1
  have hkb:kvs.length≤6000000:=by
   have:i * 3000≤2000 * 3000:=Nat.mul_le_mul_right _ (by omega)
   omega
  obtain⟨r,hr⟩:=hrow p hp
  have stop:∀bk,((m p).isSome=true∨p∈P∨J p=none)→tss ⟨K,Γ,G⟩ noX Wy {nx:=C,rt:=Q,bk:=bk,ct:=C} [some (.ref a),some (.ref b),some (.ref M.length),some (.int (i:Nat)),some (.ref (M.length+(N.length+1))),some (.int (p:Nat)),d6,d7] (M++ .dct kvs::(N++[.dct (begD P)])):=by
   intro bk hs
   obtain⟨l1,l2,l3⟩:=ln.land lk hP hp hs
   simp only[Wy]
   walk_at "ev"
   refine⟨C8 (rdL _ _),kvs,_,rdL _ _,rfl,?_⟩
   try walk_at "ev"
   have eg:((valD kvs (Sum.inl (p:Int))).getD (.int (p:Nat)))= .int ((m p).getD p:Nat):=by rw[lan p];cases m p<;>rfl
   rw[eg]
   generalize hg:(m p).getD p=g at l1 l2 l3
   refine .inr ⟨kvs,_,rdL _ _,rfl,Z6 (by omega),?_⟩
   try walk_at "ev"
   rw[Yt]
   refine⟨begD P,rdP _ _,?_⟩
   try walk_at "ev"
   have fz:∀kv,(M++ .dct kv::(N++[.fdc (begD P)]):Z0)[M.length+(N.length+1)]?=some (.fdc (begD P)):=fun kv=>by rw[Ze0,List.getElem?_cons_succ,Ff]
   have sz:∀kv c,(M++ .dct kv::(N++[c]):Z0).set (M.length+(N.length+1)) (.fdc (begD P))=M++ .dct kv::(N++[.fdc (begD P)]):=fun kv c=>by rw[Yv,List.set_cons_succ,Yt]
   have st:∀kv,(M++ .dct kv::(N++[.fdc (begD P)]):Z0).set (M.length+(N.length+1)) (.dct (begD P))=M++ .dct kv::(N++[.dct (begD P)]):=fun kv=>by rw[Yv,List.set_cons_succ,Yt]
   have eK:Nl (begD P)=natD P:=by unfold Nl begD natD;rw[List.map_map];rfl
   rw[sz,eK]
   refine Rn (fun j σ M'=>∃kv d7,σ=[some (.ref a),some (.ref b),some (.ref M.length),some (.int (i:Nat)),some (.ref (M.length+(N.length+1))),some (.int (p:Nat)),some (.int (g:Nat)),d7]∧M'=M++ .dct kv::(N++[.fdc (begD P)])∧LanD kv (LN.land m (P.take j) p g)∧kv.length≤kvs.length+1+j)
    ⟨_,d7,rfl,rfl,?_,by have:=Eh kvs (Sum.inl (p:Int)) (.int (g:Nat));omega⟩ ?_ ?_ ?_
   ·have:=lan.put p g
    intro x
    have h2:=this x
    unfold LN.land
    rw[List.take_zero,if_neg (by simp)]
    exact h2
   ·rintro j σ M' _ ⟨kv,d7,rfl,rfl,_⟩
    exact⟨begD P,fz _,eK.symm⟩
   ·rintro j dx σ M' C2 hx ⟨kv,d7,rfl,rfl,lan2,hk2⟩ hC2
    have hj:j<P.length:=by have:=(List.getElem?_eq_some_iff.mp hx).1;rwa[Ye] at this
    have hgj:P[j]?=some P[j]:=List.getElem?_eq_getElem hj
    generalize P[j]=y at hgj
    rw[Xf hgj] at hx
    cases hx
    simp only[Tj]
    walk_at "ev"
    refine .inr ⟨kv,_,rdL _ _,rfl,Z6 (by omega),?_⟩
    try walk_at "ev"
    rw[Yt]
    refine hC2 _ _ ⟨_,_,rfl,rfl,fun x=>?_,by have:=Eh kv (Sum.inl (y:Int)) (.int (g:Nat));omega⟩
    try walk_at "ev"
    rw[lan2.put y g x,X7 hgj]
    congr 1
    unfold LN.land
    try dsimp only
    by_cases ex:x=y
    ·subst ex;rw[if_pos rfl,if_pos (by simp)]
    ·rw[if_neg ex]
     try walk_at "ev"
     have:(x∈P.take j++[y])↔x∈P.take j:=by simp[ex]
     simp only[this]
   ·rintro σ M' ⟨kv,d7,rfl,rfl,lan2,hk2⟩
    rw[Ye] at lan2 hk2
    rw[List.take_length] at lan2
    refine⟨begD P,fz _,?_⟩
    try walk_at "ev"
    rw[st]
    refine hC _ _ ⟨kv,_,_,_,_,_,_,_,rfl,rfl,lan2,l1,fun x hx=>?_,by rw[Nat.add_mul];omega⟩
    try walk_at "ev"
    by_cases ex:x=i
    ·subst ex;exact l2
    ·exact l3 x (tot x (by omega))
  walk_at "ev"
  refine .inr ⟨kvs,_,rdL _ _,rfl,?_⟩
  try walk_at "ev"
  rw[lan p,Option.isSome_map]
  try dsimp only
  cases hm:(m p).isSome with
  | true=>
   rw[if_neg (by decide)]
   try walk_at "ev"
   try rw[if_neg (by decide)]
   exact stop _ (.inl hm)
  | false=>
   rw[if_pos rfl]
   try walk_at "ev"
   refine .inr ⟨begD P,_,rdP _ _,rfl,?_⟩
   try walk_at "ev"
   rw[Ju]
   try dsimp only
   by_cases hpP:p∈P
   ·rw[decide_eq_true hpP,if_neg (by decide)]
    try rw[if_neg (by decide)]
    exact stop _ (.inr (.inl hpP))
   ·rw[decide_eq_false hpP,if_pos rfl]
    refine ix_l (k:=p) (Zb ha) (by rw[List.getElem?_map,hr];rfl) ?_
    have hJp:=hJ p r hr
    cases r with
    | jump k g=>
     obtain⟨q',j1,j2,j3⟩:=hJp
     refine⟨_,rfl,?_⟩
     walk_at "ev"
     simp only[Tz]
     walk_at "ev"
     have hm':m p=none:=by cases e:m p with
      | none=>rfl
      | some _=>rw[e] at hm;cases hm
     have nd':(P++[p]).Nodup:=List.nodup_append.mpr ⟨nd,by simp,fun a ha c hc=>by rw[List.mem_singleton] at hc;subst hc;exact fun e=>hpP (e ▸ ha)⟩
     have hP':∀x∈P++[p],x<rows.length∧m x=none:=fun x hx=>by
      rcases List.mem_append.mp hx with hx | hx
      ·exact hP x hx
      ·rw[List.mem_singleton] at hx;subst hx;exact⟨hp,hm'⟩
     have hl':=ND.Xi rows.length (P++[p]) nd' fun x hx=>(hP' x hx).1
     rw[List.length_append,List.length_singleton] at hl'
     refine .inr ⟨begD P,_,rdP _ _,rfl,by rw[Oe];exact Z6 (by omega),?_⟩
     try walk_at "ev"
     rw[O4 hpP,Yv,List.set_cons_succ,Yt]
     refine ix_l (k:=p) (Zb ha) (by rw[List.getElem?_map,hr];rfl) ?_
     refine⟨_,rfl,?_⟩
     try walk_at "ev"
     refine ix_d (X6 hb) rfl j3 ?_
     try walk_at "ev"
     exact⟨_,by rw[List.length_append,List.length_singleton];omega,P++[p],q',rfl,rfl,rfl,lk.snoc j1,nd',hP',j2⟩
    | sum k x o1 sg o2=>
     refine⟨_,rfl,?_⟩
     walk_at "ev"
     rw[if_neg (by decide+kernel)]
     try walk_at "ev"
     exact stop _ (.inr (.inr hJp))
    | test k o1 sg o2 g=>
     refine⟨_,rfl,?_⟩
     walk_at "ev"
     rw[if_neg (by decide+kernel)]
     try walk_at "ev"
     exact stop _ (.inr (.inr hJp))
    | fin k=>
     refine⟨_,rfl,?_⟩
     walk_at "ev"
     rw[if_neg (by decide+kernel)]
     try walk_at "ev"
     exact stop _ (.inr (.inr hJp))
 ·rintro σ M' ⟨kvs,m,N,d3,d4,d5,d6,d7,rfl,rfl,lan,ln,tot,hk⟩
  simp only[S6]
  walk_at "ev"
  exact q kvs m _ lan ln tot (Kp.new _ _) (Y0 _ _ _)
end
noncomputable def Rw.num:Rw→Nat
 | .sum k _ _ _ _=>k
 | .test k _ _ _ _=>k
 | .jump k _=>k
 | .fin k=>k
noncomputable def Ze8(rows:List Rw)(g:Nat):Nat:=(rows.map Rw.num).idxOf g
noncomputable def jmp(rows:List Rw)(p:Nat):Option Nat:=match rows[p]? with
 | some (.jump _ g)=>some (Ze8 rows g)
 | _=>none
noncomputable def Rw.node(rows:List Rw)(L:Nat→Nat)(p:Nat):Rw→Nd
 | .sum _ x a sg b=> .sum x a sg b (L (p+1))
 | .test _ a sg b g=> .test a sg b (L (Ze8 rows g)) (L (p+1))
 | .jump _ _=> .spin
 | .fin _=> .fin
noncomputable def Rw.goal:Rw→Option Nat
 | .test _ _ _ _ g=>some g
 | .jump _ g=>some g
 | _=>none
noncomputable def Rw.goes:Rw→Bool
 | .sum _ _ _ _ _=>true
 | .test _ _ _ _ _=>true
 | _=>false
structure RwOk(rows:List Rw):Prop where
 pos:0<rows.length
 small:rows.length≤2000
 nd:(rows.map Rw.num).Nodup
 goal:∀r∈rows,∀g,r.goal=some g→g∈rows.map Rw.num
 last:∀p r,rows[p]?=some r→r.goes=true→p+1<rows.length
structure Lands(rows:List Rw)(L:Nat→Nat):Prop where
 lt:∀p,p<rows.length→L p<rows.length
 no:∀p,p<rows.length→jmp rows p=none→L p=p
 yes:∀p q,p<rows.length→jmp rows p=some q→L p=L q
 orb:∀p,p<rows.length→LN.Orb (jmp rows) p (L p)
noncomputable def Zq(rows:List Rw)(L:Nat→Nat):List Nd:=rows.mapIdx fun p r=>r.node rows L p
def Zw:DSp:=fun ds M Q _=>∃(a:Nat) (rows:List Rw),ds=[.ref a]∧Za M a=some (rows.map Rw.d)∧RwOk rows∧
 ∀L M' r,Lands rows L→Kp M M'→Zc M' r=some ((Zq rows L).map Nd.d)→M.length≤r→Q (.tup [.ref r,.int (L 0:Nat)]) M'
theorem Pd{rows:List Rw}{g:Nat}(h:g∈rows.map Rw.num):Ze8 rows g<rows.length:=by
 have:=List.idxOf_lt_length_of_mem h
 rwa[List.length_map] at this
theorem Z29{rows:List Rw}(ok:RwOk rows){p q:Nat}(h:jmp rows p=some q):q<rows.length:=by
 unfold jmp at h
 split at h
 ·rename_i k g e
  cases h
  exact Pd (ok.goal _ (List.mem_of_getElem? e) g rfl)
 ·cases h
theorem Zz9{rows:List Rw}(ok:RwOk rows){p q:Nat}(h:LN.Orb (jmp rows) p q)(hp:p<rows.length):q<rows.length:=by
 induction h with
 | refl _=>exact hp
 | step e _ ih=>exact ih (Z29 ok e)
theorem Zh1{rows:List Rw}(ok:RwOk rows){m:Nat→Option Nat}(h:LN.Ln (jmp rows) rows.length m)(all:∀p,p<rows.length→(m p).isSome=true):Lands rows (fun p=>(m p).getD 0):=by
 have get:∀p,p<rows.length→m p=some ((m p).getD 0):=fun p hp=>by
  obtain⟨g,e⟩:=Option.isSome_iff_exists.mp (all p hp)
  rw[e];rfl
 refine⟨fun p hp=>Zz9 ok (h p _ (get p hp)).2.2.2 hp,fun p hp e=>(h p _ (get p hp)).2.1 e,fun p q hp e=>?_,fun p hp=>(h p _ (get p hp)).2.2.2⟩
 try walk_at "ev"
 have:=(h p _ (get p hp)).2.2.1 q e
 show(m p).getD 0=(m q).getD 0
 rw[this];rfl
theorem Kp.D{M M':Z0}{a:Nat}{xs:List (Key×D)}(h:Kp M M')(e:Zd M a=some xs):Zd M' a=some xs:=by obtain⟨L,rfl⟩:=h;exact X6 e
theorem Yn(rows:List Rw)(L:Nat→Nat):(Zq rows L).length=rows.length:=by unfold Zq;simp
theorem Y5{rows:List Rw}{L:Nat→Nat}{i:Nat}{r:Rw}(h:rows[i]?=some r):(Zq rows L)[i]?=some (r.node rows L i):=by unfold Zq;rw[List.getElem?_mapIdx,h];rfl
section
variable{K:PySem.W.Frag}
theorem Zh6{Γ G}(g4:Γ[15]?=some Zi):∀ds M Q Z,Zw ds M Q Z→tss ⟨K,Γ,G⟩ noX b_linked {nx:=fun _ M=>Q .non M,rt:=Q} (start0 Sg ds) M:=by
 rintro ds M Q Z ⟨a,rows,rfl,ha,ok,q⟩
 have hn:=ok.small
 simp only[b_linked,Sg]
 walk_at "ev"
 refine⟨_,ha,?_⟩
 try walk_at "ev"
 simp only[capD,List.map_cons,List.map_nil,Option.bind_none,Option.bind_some,List.getElem?_cons_zero,List.getElem?_cons_succ,Option.join_some]
 refine Wi (fun i σ M'=>∃d1 d2,σ=[d1,d2]∧M'=M++[.lst (U.Xv (numP ((rows.map Rw.num).take i)))]) ⟨none,none,rfl,rfl⟩ ?_ ?_ ?_
 ·rintro i σ M' _ ⟨d1,d2,rfl,rfl⟩
  exact⟨_,Zb ha,rfl⟩
 ·rintro i dx σ M' C hx ⟨d1,d2,rfl,rfl⟩ hC
  obtain⟨y,hy,rfl⟩:=Pz hx
  have hi:i<rows.length:=by have:=(List.getElem?_eq_some_iff.mp hy).1;rwa[List.length_map] at this
  obtain⟨r,hr⟩:∃r,rows[i]?=some r:=⟨_,List.getElem?_eq_getElem hi⟩
  rw[List.getElem?_map,hr] at hy
  cases hy
  have hnum:(rows.map Rw.num)[i]?=some r.num:=by rw[List.getElem?_map,hr];rfl
  have e0:∀F:D→Prop,F (.int (r.num:Nat))→ixD (M++[.lst (U.Xv (numP ((rows.map Rw.num).take i)))]) r.d (.int 0) F:=fun F f=>by cases r<;>exact⟨_,rfl,f⟩
  walk_at "ev"
  refine e0 _ ⟨Z1 (by decide),_,Zu _ _ [],by unfold U.Xv;rw[List.length_map,S8,List.length_take,List.length_map];exact Z6 (by omega),?_⟩
  try walk_at "ev"
  rw[Yt]
  refine hC _ _ ⟨_,_,rfl,?_⟩
  try walk_at "ev"
  rw[X7 hnum,Rx,List.length_take,List.length_map,Nat.min_eq_left (by omega)]
  unfold U.Xv
  rw[List.map_append]
  rfl
 ·rintro σ M' ⟨d1,d2,rfl,rfl⟩
  rw[Ob,List.length_map,←List.length_map (f:=Rw.num) (as:=rows),List.take_length]
  try walk_at "ev"
  refine .inr ⟨numP (rows.map Rw.num),Zy _ _ [],by rw[S8,List.length_map];exact Z6 (by omega),?_⟩
  try walk_at "ev"
  have k1:Kp M (M++[.lst (U.Xv (numP (rows.map Rw.num)))]++[.dct (Vi (numP (rows.map Rw.num)))]):=(Kp.new _ _).app _
  have hd1:Zd (M++[.lst (U.Xv (numP (rows.map Rw.num)))]++[.dct (Vi (numP (rows.map Rw.num)))]) (M++[Cell.lst (U.Xv (numP (rows.map Rw.num)))]:Z0).length=some (Vi (numP (rows.map Rw.num))):=Y0 _ _ []
  generalize M++[.lst (U.Xv (numP (rows.map Rw.num)))]++[.dct (Vi (numP (rows.map Rw.num)))]=M1 at k1 hd1
  generalize (M++[Cell.lst (U.Xv (numP (rows.map Rw.num)))]:Z0).length=nn at hd1
  have ha1:=k1.L ha
  try simp only[g4]
  have jof:JOf rows (Vi (numP (rows.map Rw.num))) (jmp rows):=by
   intro p r hr
   cases r with
   | jump k g=>
    have hg:=ok.goal _ (List.mem_of_getElem? hr) g rfl
    exact⟨Ze8 rows g,by unfold jmp;rw[hr],Pd hg,Pq _ _ rfl ok.nd g hg⟩
   | _=>show jmp rows p=none;unfold jmp;rw[hr]
  refine⟨a,nn,rows,_,jmp rows,rfl,ha1,hd1,hn,jof,fun kvs m M2 lan ln tot k2 hk=>?_⟩
  try walk_at "ev"
  have lands:=Zh1 ok ln tot
  have hd2:=k2.D hd1
  have ha2:=k2.L ha1
  have val:∀p:Nat,p<rows.length→valD kvs (Sum.inl (p:Int))=some (.int ((m p).getD 0:Nat)):=fun p hp=>by
   rw[lan p]
   obtain⟨g,e⟩:=Option.isSome_iff_exists.mp (tot p hp)
   rw[e];rfl
  walk_at "ev"
  refine⟨Z1 (by decide),_,Zb ha2,?_⟩
  try walk_at "ev"
  have hk':∀N,Zd (M2++N) M1.length=some kvs:=fun N=>X6 hk
  have hp':∀N,Zd (M2++N) nn=some (Vi (numP (rows.map Rw.num))):=fun N=>X6 hd2
  generalize hL:(fun p=>(m p).getD 0)=L at lands
  have val':∀p:Nat,p<rows.length→valD kvs (Sum.inl (p:Int))=some (.int (L p:Nat)):=fun p hp=>by rw[val p hp,←hL]
  refine Rn (fun i σ M'=>∃d4 d5,σ=[some (.ref a),some (.ref nn),some (.ref M1.length),some (.ref M2.length),d4,d5]∧M'=M2++[.lst (((Zq rows L).take i).map Nd.d)]) ⟨none,none,rfl,rfl⟩ ?_ ?_ ?_
  ·rintro i σ M' _ ⟨d4,d5,rfl,rfl⟩
   exact⟨_,Zb ha2,rfl⟩
  ·rintro i dx σ M' C hx ⟨d4,d5,rfl,rfl⟩ hC
   obtain⟨y,hy,rfl⟩:=Pz hx
   have hi:i<rows.length:=by have:=(List.getElem?_eq_some_iff.mp hy).1;rwa[List.length_map] at this
   obtain⟨r,hr⟩:∃r,rows[i]?=some r:=⟨_,List.getElem?_eq_getElem hi⟩
   rw[List.getElem?_map,hr] at hy
   cases hy
   have len:(((Zq rows L).take i).map Nd.d).length<sizeLine:=by
    rw[List.length_map,List.length_take,Yn]
    exact Z6 (by omega)
   have fin:∀d4 d5,C [some (.ref a),some (.ref nn),some (.ref M1.length),some (.ref M2.length),d4,d5] (M2++[.lst (((Zq rows L).take i).map Nd.d++[(r.node rows L i).d])]):=by
    intro d4 d5
    refine hC _ _ ⟨d4,d5,rfl,?_⟩
    try walk_at "ev"
    rw[X7 (Y5 hr),List.map_append]
    rfl
   have put:∀d4 d5 v,v=(r.node rows L i).d→∃xs,Zc (M2++[.lst (((Zq rows L).take i).map Nd.d)]) M2.length=some xs∧xs.length<sizeLine∧C [some (.ref a),some (.ref nn),some (.ref M1.length),some (.ref M2.length),d4,d5] ((M2++[.lst (((Zq rows L).take i).map Nd.d)]:Z0).set M2.length (.lst (xs++[v]))):=by
    rintro d4 d5 v rfl
    refine⟨_,Zu _ _ [],len,?_⟩
    try walk_at "ev"
    rw[Yt]
    exact fin d4 d5
   have isS:(Za (M2++[.lst (((Zq rows L).take i).map Nd.d)]) M2.length).isSome=true:=Y8 (Zy _ _ [])
   have e1:((i:Int)+1)=((i+1:Nat):Int):=by omega
   simp only[Pb]
   try walk_at "ev"
   cases r with
   | sum k x o1 sg o2=>
    have hl:=ok.last i _ hr rfl
    simp only[Rw.d]
    try walk_at "ev"
    refine⟨_,rfl,?_⟩
    try walk_at "ev"
    rw[show U.cutD [.int k,.str "sum",.str x,o1.d,.str sg,o2.d] (some 1) none=[.str "sum",.str x,o1.d,.str sg,o2.d] from rfl,e1]
    refine⟨isS,by decide,ix_d (hk' _) rfl (val' _ hl) ⟨Z1 (by decide),by simp,Z1 (by simp),put _ _ _ rfl⟩⟩
   | test k o1 sg o2 g=>
    have hl:=ok.last i _ hr rfl
    have hg:=ok.goal _ (List.mem_of_getElem? hr) g rfl
    simp only[Rw.d]
    try walk_at "ev"
    refine⟨_,rfl,?_⟩
    try walk_at "ev"
    rw[if_neg (by decide+kernel)]
    try walk_at "ev"
    refine⟨_,rfl,?_⟩
    try walk_at "ev"
    rw[show U.cutD [.int k,.str "test",o1.d,.str sg,o2.d,.int g] (some 1) (some 5)=[.str "test",o1.d,.str sg,o2.d] from rfl,e1]
    refine⟨isS,by decide,_,rfl,ix_d (hp' _) rfl (Pq _ _ rfl ok.nd g hg) (ix_d (hk' _) rfl (val' _ (Pd hg)) (ix_d (hk' _) rfl (val' _ hl) ⟨Z1 (by decide),by simp,Z1 (by simp),put _ _ _ rfl⟩))⟩
   | fin k=>
    simp only[Rw.d]
    try walk_at "ev"
    refine⟨_,rfl,?_⟩
    try walk_at "ev"
    rw[if_neg (by decide+kernel)]
    try walk_at "ev"
    refine⟨_,rfl,?_⟩
    try walk_at "ev"
    rw[if_neg (by decide+kernel)]
    try walk_at "ev"
    refine⟨_,rfl,?_⟩
    try walk_at "ev"
    exact⟨isS,Z1 (by decide),put _ _ _ rfl⟩
   | jump k g=>
    simp only[Rw.d]
    try walk_at "ev"
    refine⟨_,rfl,?_⟩
    try walk_at "ev"
    rw[if_neg (by decide+kernel)]
    try walk_at "ev"
    refine⟨_,rfl,?_⟩
    try walk_at "ev"
    rw[if_neg (by decide+kernel)]
    try walk_at "ev"
    refine⟨_,rfl,?_⟩
    try walk_at "ev"
    rw[if_neg (by decide+kernel)]
    try walk_at "ev"
    exact⟨isS,Z1 (by decide),put _ _ _ rfl⟩
  ·rintro σ M' ⟨d4,d5,rfl,rfl⟩
   rw[Ob,List.length_map,←Yn rows L,List.take_length]
   simp only[Qv]
   walk_at "ev"
   refine ix_d (y:=Sum.inl ((0:Nat):Int)) (hk' _) rfl (val' 0 ok.pos) ⟨Z1 (by decide),?_⟩
   try walk_at "ev"
   refine q L _ _ lands ((k1.trans k2).app _) (Zu _ _ []) ?_
   try walk_at "ev"
   obtain⟨X1,rfl⟩:=k1
   obtain⟨X2,rfl⟩:=k2
   simp only[List.length_append]
   omega
end
def Y3(tg:Addr):DSp:=fun ds M Q Z=>∃(a:Nat) (rows:List Rw),ds=[.ref a]∧Za M a=some (rows.map Rw.d)∧RwOk rows∧
 ∀L d,Lands rows L→ND.Ends (wy (Zq rows L)) (L 0) d→(d.length≤40→∀M' r,Kp M M'→Zc M' r=some ((gra (Zq rows L) d.reverse).map Nd.d)→Q (.ref r) M')∧(40<d.length→∀M',Kp M M'→Z tg .non M')
theorem Zc0(nds:List Nd):gw (nds.map fun d=>d.gs.reverse)=wy nds:=by
 funext y
 unfold gw wy
 rw[List.getD_eq_getElem?_getD,List.getElem?_map]
 cases nds[y]? with
 | none=>rfl
 | some d=>simp
theorem Ea{rows:List Rw}(ok:RwOk rows){L:Nat→Nat}(h:Lands rows L):∀d∈Zq rows L,∀t∈d.gs,t<rows.length:=by
 intro d hd t ht
 obtain⟨i,hi⟩:=List.getElem?_of_mem hd
 unfold Zq at hi
 rw[List.getElem?_mapIdx,Option.map_eq_some_iff] at hi
 obtain⟨r,hr,rfl⟩:=hi
 cases r with
 | sum k x o1 sg o2=>
  have hl:=ok.last i _ hr rfl
  simp[Rw.node,Nd.gs] at ht
  rw[ht];exact h.lt _ hl
 | test k o1 sg o2 g=>
  have hl:=ok.last i _ hr rfl
  have hg:=ok.goal _ (List.mem_of_getElem? hr) g rfl
  simp[Rw.node,Nd.gs] at ht
  rcases ht with ht | ht
  ·rw[ht];exact h.lt _ hl
  ·rw[ht];exact h.lt _ (Pd hg)
 | jump k g=>simp[Rw.node,Nd.gs] at ht
 | fin k=>simp[Rw.node,Nd.gs] at ht
theorem Z90{g:Nat→List Nat}{x:Nat}{d:List Nat}{S:Nat→Prop}(cl:∀x,S x→∀t∈g x,S t)(hx:S x)(h:ND.Ends g x d):∀y∈d,S y:=by
 obtain⟨k0,b,h⟩:=h
 have i0:ND.In S ⟨[x],[(x,g x)],[]⟩:=⟨fun y hy=>by rw[List.mem_singleton] at hy;subst hy;exact hx,fun p hp=>by rw[List.mem_singleton] at hp;subst hp;exact⟨hx,cl x hx⟩,fun y hy=>by simp at hy⟩
 have all:∀k,ND.In S (ND.itr g k ⟨[x],[(x,g x)],[]⟩):=fun k=>by
  induction k with
  | zero=>exact i0
  | succ k ih=>exact ih.stp cl
 have:=all k0
 rw[h] at this
 exact this.d
section
variable{K:PySem.W.Frag}
theorem Cn{Γ G}{tg:Addr}(h9:G[3]?=some (.int 40))(h5:G[2]?=some (.cls tg))(g0:Γ[7]?=some Y6)(g2:Γ[9]?=some Zk)(g3:Γ[10]?=some Z9)(g5:Γ[16]?=some Zw):∀ds M Q Z,Y3 tg ds M Q Z→tss ⟨K,Γ,G⟩ Z b_graph_of {nx:=fun _ M=>Q .non M,rt:=Q} (start0 Vh ds) M:=by
 rintro ds M Q Z ⟨a,rows,rfl,ha,ok,q⟩
 have hn:=ok.small
 simp only[b_graph_of,Vh]
 walk_at "ev"
 try simp only[g0,g2,g3,g5]
 refine⟨a,rows,rfl,ha,ok,fun L M1 r1 lands k1 hw1 _=>?_⟩
 try walk_at "ev"
 have hL1:=Z3 hw1
 have ngs:=Ea ok lands
 have hlen:=Yn rows L
 generalize hnds:Zq rows L=nds at hw1 hL1 ngs hlen
 walk_at "ev"
 refine⟨_,hL1,?_⟩
 try walk_at "ev"
 simp only[capD,List.map_cons,List.map_nil,Option.bind_none,Option.bind_some,List.getElem?_cons_zero,List.getElem?_cons_succ,Option.join_some]
 refine Wi (fun i σ M'=>∃d1,σ=[d1]∧M'=M1++[.lst ((nds.take i).map fun d=> .tup (natD d.gs.reverse))]) ⟨none,rfl,rfl⟩ ?_ ?_ ?_
 ·rintro i σ M' _ ⟨d1,rfl,rfl⟩
  exact Zb hL1
 ·rintro i dx σ M' C hx ⟨d1,rfl,rfl⟩ hC
  have hi:i<nds.length:=by have:=(List.getElem?_eq_some_iff.mp hx).1;rwa[List.length_map] at this
  obtain⟨d,hd⟩:∃d,nds[i]?=some d:=⟨_,List.getElem?_eq_getElem hi⟩
  rw[Z67 hd] at hx
  cases hx
  walk_at "ev"
  refine⟨d,rfl,_,Zu _ _ [],by rw[List.length_map,List.length_take];exact Z6 (by omega),?_⟩
  try walk_at "ev"
  rw[Yt]
  refine hC _ _ ⟨_,rfl,?_⟩
  try walk_at "ev"
  rw[X7 hd,List.map_append]
  rfl
 ·rintro σ M' ⟨d1,rfl,rfl⟩
  rw[List.length_map,List.take_length]
  try walk_at "ev"
  refine⟨Z1 (by decide),?_⟩
  try walk_at "ev"
  have k2:Kp M1 (M1++[.lst (nds.map fun d=> .tup (natD d.gs.reverse))]++[.lst [.int (L 0:Nat)]]):=(Kp.new _ _).app _
  have r2:Za (M1++[.lst (nds.map fun d=> .tup (natD d.gs.reverse))]++[.lst [.int (L 0:Nat)]]) M1.length=some (nds.map fun d=> .tup (natD d.gs.reverse)):=Zb (Zy _ _ [])
  have r3:Za (M1++[.lst (nds.map fun d=> .tup (natD d.gs.reverse))]++[.lst [.int (L 0:Nat)]]) (M1++[Cell.lst (nds.map fun d=> .tup (natD d.gs.reverse))]:Z0).length=some [.int (L 0:Nat)]:=Zy _ _ []
  generalize M1++[.lst (nds.map fun d=> .tup (natD d.gs.reverse))]++[.lst [.int (L 0:Nat)]]=M2 at k2 r2 r3
  generalize (M1++[Cell.lst (nds.map fun d=> .tup (natD d.gs.reverse))]:Z0).length=sb at r3
  have h0:=lands.lt 0 ok.pos
  refine⟨M1.length,sb,L 0,nds.map fun d=>d.gs.reverse,rfl,by rw[List.map_map];exact r2,r3,by rw[List.length_map];omega,by rw[List.length_map];omega,?_,fun d M3 r4 ends k3 hw3 _=>?_⟩
  ·intro l hl
   obtain⟨d,hd,rfl⟩:=List.mem_map.mp hl
   have two:=d.gs_two
   refine⟨by rw[List.length_reverse];omega,fun t ht=>?_⟩
   try walk_at "ev"
   rw[List.length_map,hlen]
   exact ngs d hd t (List.mem_reverse.mp ht)
  rw[Zc0] at ends
  obtain⟨q1,q2⟩:=q L d lands (by rw[hnds];exact ends)
  obtain⟨nd,cl,last⟩:=ends.facts
  have hO:=Z3 hw3
  have hin:∀y∈d,y<rows.length:=Z90 (S:=(· <rows.length)) (fun y hy t ht=>by
   obtain⟨dd,hdd⟩:∃dd,nds[y]?=some dd:=⟨_,List.getElem?_eq_getElem (by rw[hlen];exact hy)⟩
   rw[Z11 hdd] at ht
   exact ngs dd (List.mem_of_getElem? hdd) t ht) h0 ends
  try walk_at "ev"
  refine Yu hO ?_
  try walk_at "ev"
  rw[Ye,List.length_reverse]
  try walk_at "ev"
  simp only[h9]
  try walk_at "ev"
  by_cases h40:d.length≤40
  ·rw[if_neg (by omega)]
   try walk_at "ev"
   simp only[Tv]
   walk_at "ev"
   try simp only[g3]
   refine⟨r1,r4,nds,d.reverse,rfl,k3.L (k2.L hL1),hO,List.pairwise_reverse.mpr (nd.imp fun h=>Ne.symm h),by rw[List.length_reverse];omega,fun x hx=>by rw[hlen];exact hin x (List.mem_reverse.mp hx),fun x hx t ht=>List.mem_reverse.mpr (cl x (List.mem_reverse.mp hx) t ht),fun M4 r5 k4 hw4 hr5=>?_⟩
   try walk_at "ev"
   exact q1 h40 M4 r5 (((k1.trans k2).trans k3).trans k4) (by rw[hnds];exact hw4)
  ·rw[if_pos (by omega)]
   try walk_at "ev"
   simp only[h5]
   exact q2 (by omega) _ ((k1.trans k2).trans k3)
end
section
variable{K:PySem.W.Frag}
def AL(M:Z0):Nat→D→D→Prop
 | 0,x,y=>x=y∧Xc x=true
 | n+1,x,y=>(x=y∧Xc x=true)∨(∃xs ys,x= .tup xs∧y= .tup ys∧xs.length=ys.length∧xs.length≤100000∧∀(i:Nat) a b,xs[i]?=some a→ys[i]?=some b→AL M n a b)∨
   ∃m k xs ys,x= .ref m∧y= .ref k∧Zc M m=some xs∧Zc M k=some ys∧xs.length=ys.length∧xs.length≤100000∧∀(i:Nat) a b,xs[i]?=some a→ys[i]?=some b→AL M n a b
def X8(n:Nat):DSp:=fun ds M Q _=>∃x y,ds=[x,y]∧AL M n x y∧Q (.bl true) M
theorem AL.flat{M:Z0}{n:Nat}{x:D}(h:Xc x=true):AL M n x x:=by
 cases n with
 | zero=>exact⟨rfl,h⟩
 | succ n=>exact .inl ⟨rfl,h⟩
theorem Qb{Γ G}{M:Z0}{Q:DK}{x:D}(h:Xc x=true)(q:Q (.bl true) M):tss ⟨K,Γ,G⟩ noX b_Lalike {nx:=fun _ M=>Q .non M,rt:=Q} (start0 Xz [x,x]) M:=by
 simp only[b_Lalike,Xz]
 try walk_at "ev"
 cases x with
 | non=>
  walk_at "ev"
  exact q
 | bl b=>
  walk_at "ev"
  simp only[Xu]
  walk_at "ev"
  simpa using q
 | int i=>
  walk_at "ev"
  simp only[Xu]
  walk_at "ev"
  simp only[Wf]
  walk_at "ev"
  simpa using q
 | str z=>
  walk_at "ev"
  simp only[Xu]
  walk_at "ev"
  simp only[Wf]
  walk_at "ev"
  simp only[V3]
  walk_at "ev"
  simpa using q
 | _=>exact absurd h Bool.false_ne_true
theorem Z04{Γ G}:∀ds M Q Z,X8 0 ds M Q Z→tss ⟨K,Γ,G⟩ noX b_Lalike {nx:=fun _ M=>Q .non M,rt:=Q} (start0 Xz ds) M:=by
 rintro ds M Q Z ⟨x,y,rfl,⟨rfl,h⟩,q⟩
 exact Qb h q
theorem Os{Γ G}{n:Nat}(g:Γ[26]?=some (X8 n)){M:Z0}{Q:DK}{x y:D}{xs ys:List D}{d:Option D}(hl:xs.length=ys.length)(hs:xs.length≤100000)(h:∀(i:Nat) a b,xs[i]?=some a→ys[i]?=some b→AL M n a b)
  (lx:∀F:DK,F (.int xs.length) M→bfD K .len [x] M F) (ly:∀F:DK,F (.int ys.length) M→bfD K .len [y] M F) (ix:∀(i:Nat) a (F:D→Prop),xs[i]?=some a→F a→ixD M x (.int i) F) (iy:∀(i:Nat) a (F:D→Prop),ys[i]?=some a→F a→ixD M y (.int i) F) (q:Q (.bl true) M):
  tss ⟨K,Γ,G⟩ noX T9 {nx:=fun _ M=>Q .non M,rt:=Q} [some x,some y,d] M:=by
 simp only[T9]
 walk_at "ev"
 refine lx _ (ly _ ?_)
 walk_at "ev"
 rw[if_neg (by rw[hl];simp)]
 try walk_at "ev"
 simp only[Pa]
 walk_at "ev"
 refine ly _ ⟨by omega,by omega,?_⟩
 try walk_at "ev"
 rw[Int.toNat_natCast]
 refine Sn (fun i σ M'=>∃d,σ=[some x,some y,d]∧M'=M) ⟨d,rfl,rfl⟩ ?_ ?_
 ·rintro i σ M' C hi ⟨d,rfl,rfl⟩ hC
  simp only[Qm,Int.zero_add]
  walk_at "ev"
  refine ix i _ _ (List.getElem?_eq_getElem (by omega)) (iy i _ _ (List.getElem?_eq_getElem hi) ?_)
  simp only[g]
  refine⟨_,_,rfl,h i _ _ (List.getElem?_eq_getElem (by omega)) (List.getElem?_eq_getElem hi),?_⟩
  walk_at "ev"
  exact hC _ _ ⟨_,rfl,rfl⟩
 ·rintro σ M' ⟨d,rfl,rfl⟩
  simp only[Pc]
  walk_at "ev"
  exact q
theorem Nw{Γ G}{n:Nat}(g:Γ[26]?=some (X8 n)):∀ds M Q Z,X8 (n+1) ds M Q Z→tss ⟨K,Γ,G⟩ noX b_Lalike {nx:=fun _ M=>Q .non M,rt:=Q} (start0 Xz ds) M:=by
 rintro ds M Q Z ⟨x,y,rfl,h | ⟨xs,ys,rfl,rfl,hl,hs,h⟩ | ⟨m,k,xs,ys,rfl,rfl,h1,h2,hl,hs,h⟩,q⟩
 ·obtain⟨rfl,h⟩:=h
  exact Qb h q
 ·simp only[b_Lalike,Xz]
  walk_at "ev"
  simp only[Xu]
  walk_at "ev"
  simp only[Wf]
  walk_at "ev"
  simp only[V3]
  walk_at "ev"
  simp only[T8]
  walk_at "ev"
  exact Os g hl hs h (fun F f=>f) (fun F f=>f) (fun i a F e f=>⟨a,Ps e,f⟩) (fun i a F e f=>⟨a,Ps e,f⟩) q
 ·have i1:∀{t:Ty} {B:Bool→Prop},isD K M (.ref m) (.ty (Xa t)) B=B (tyLst t):=fun{t B}=>Zj0 h1
  have i2:∀{t:Ty} {B:Bool→Prop},isD K M (.ref k) (.ty (Xa t)) B=B (tyLst t):=fun{t B}=>Zj0 h2
  simp only[b_Lalike,Xz]
  walk_at "ev"
  simp only[Xu]
  walk_at "ev"
  simp only[i2]
  walk_at "ev"
  simp only[Wf]
  walk_at "ev"
  simp only[i2]
  walk_at "ev"
  simp only[V3]
  walk_at "ev"
  simp only[i2]
  walk_at "ev"
  simp only[T8]
  walk_at "ev"
  simp only[i1,i2]
  walk_at "ev"
  exact Os g hl hs h (fun F f=>Yu (Z3 h1) f) (fun F f=>Yu (Z3 h2) f) (fun i a F e f=>ix_l (Z3 h1) e f) (fun i a F e f=>ix_l (Z3 h2) e f) q
end
noncomputable def dI:D→Int
 | .int i=>i
 | _=>0
noncomputable def wI(kvs:List (Key×D)):Opd→Int
 | .no i=>i
 | .nm x=>dI ((valD kvs (Sum.inr x)).getD (.int 0))
def MI(n:Nat)(kvs:List (Key×D)):Prop:=∀k v,valD kvs k=some v→∃i,v= .int i∧Bits n i
def OB:Opd→Prop
 | .no i=>Bits 64 i
 | .nm x=>PyData.canLay0 (.str x)=true
theorem MI.wth{n:Nat}{kvs:List (Key×D)}(h:MI n kvs)(hn:64≤n){o:Opd}(ho:OB o):Bits n (wI kvs o):=by
 cases o with
 | no i=>exact(show Bits 64 i from ho).mono hn
 | nm x=>
  show Bits n (dI ((valD kvs (Sum.inr x)).getD (.int 0)))
  cases e:valD kvs (Sum.inr x) with
  | none=>exact(show Bits 1 0 by unfold Bits;decide).mono (by omega)
  | some v=>obtain⟨i,rfl,hb⟩:=h _ _ e;exact hb
theorem MI.get{n:Nat}{kvs:List (Key×D)}(h:MI n kvs)(x:Str):(valD kvs (Sum.inr x)).getD (.int 0)= .int (wI kvs (.nm x)):=by
 show _=D.int (dI ((valD kvs (Sum.inr x)).getD (.int 0)))
 cases e:valD kvs (Sum.inr x) with
 | none=>rfl
 | some v=>obtain⟨i,rfl,hb⟩:=h _ _ e;rfl
theorem MI.put{n:Nat}{kvs:List (Key×D)}(h:MI n kvs)(k:Key){i:Int}(hi:Bits (n+1) i):MI (n+1) (putD kvs k (.int i)):=by
 intro j v e
 rw[T7] at e
 split at e
 ·cases e;exact⟨i,rfl,hi⟩
 ·obtain⟨w,rfl,hw⟩:=h j v e;exact⟨w,rfl,hw.mono (by omega)⟩
theorem MI.mono{n m:Nat}{kvs:List (Key×D)}(h:MI n kvs)(k:n≤m):MI m kvs:=fun j v e=>by obtain⟨i,a,b⟩:=h j v e;exact⟨i,a,b.mono k⟩
noncomputable def mkS(sg:Str)(a b:Int):Option Int:=
 if sg="+" then some (a+b) else if sg="-" then some (a - b) else if sg="/" then(if b=0 then none else some (qdiv a b)) else if sg="rest" then(if b=0 then none else some (qmod a b)) else if sg="&" then some (Builtin.bitAnd a b) else some (Builtin.bitXor a b)
noncomputable def hld(sg:Str)(a b:Int):Bool:=if sg="<" then decide (a<b) else decide (a=b)
theorem So{n:Nat}{x:Int}(h:Bits n x):-(2 ^ n:Nat)≤x∧x< (2 ^ n:Nat):=by unfold Bits at h;omega
theorem Fs{n:Nat}{x:Int}(h:-(2 ^ n:Nat)≤x∧x< (2 ^ n:Nat)):Bits (n+1) x:=by
 unfold Bits
 rw[Nat.pow_succ]
 omega
theorem Zt6{n:Nat}{sg:Str}{a b v:Int}(ha:Bits n a)(hb:Bits n b)(h:mkS sg a b=some v):Bits (n+1) v:=by
 unfold mkS at h
 split at h
 ·cases h;exact ha.add hb
 split at h
 ·cases h
  have:Bits n (-b):=by unfold Bits at hb ⊢;rw[Int.natAbs_neg];exact hb
  have:=ha.add this
  rwa[←Int.sub_eq_add_neg] at this
 split at h
 ·split at h
  ·cases h
  ·cases h
   rename_i hb0
   refine Bits.mono (n:=n) ?_ (by omega)
   unfold Bits at ha ⊢
   rw[←Z23]
   exact Nat.lt_of_le_of_lt (Int.natAbs_fdiv_le_natAbs a b) ha
 split at h
 ·split at h
  ·cases h
  ·cases h
   rename_i hb0
   refine Bits.mono (n:=n) ?_ (by omega)
   unfold Bits at hb ⊢
   rw[←Z61]
   rcases Int.lt_or_le 0 b with h0 | h0
   ·rw[Int.fmod_eq_emod_of_nonneg _ (by omega)]
    have:=Int.emod_nonneg a hb0
    have:=Int.emod_lt_of_pos a h0
    omega
   ·have e:=Int.neg_fmod_neg a b
    rw[Int.fmod_eq_emod_of_nonneg _ (by omega)] at e
    have:=Int.emod_nonneg (-a) (show -b≠0 by omega)
    have:=Int.emod_lt_of_pos (-a) (show 0< -b by omega)
    omega
 split at h
 ·cases h
  obtain⟨a1,a2⟩:=So ha
  obtain⟨b1,b2⟩:=So hb
  exact Fs (UB.range_and a1 a2 b1 b2)
 ·cases h
  obtain⟨a1,a2⟩:=So ha
  obtain⟨b1,b2⟩:=So hb
  exact Fs (UB.range_xor a1 a2 b1 b2)
noncomputable def sumT(x:Str)(u:Int)(sg:Str)(v w:Int):D:= .tup [.str "sum",.str x,.int u,.str sg,.int v,.int w]
noncomputable def testT(u:Int)(sg:Str)(v:Int)(b:Bool):D:= .tup [.str "test",.int u,.str sg,.int v,.bl b]
noncomputable def stp(kvs:List (Key×D)):Nd→Option (D×List (Key×D)×Nat)
 | .sum x a sg b t=>(mkS sg (wI kvs a) (wI kvs b)).map fun w=>(sumT x (wI kvs a) sg (wI kvs b) w,putD kvs (Sum.inr x) (.int w),t)
 | .test a sg b y n=>some (testT (wI kvs a) sg (wI kvs b) (hld sg (wI kvs a) (wI kvs b)),kvs,if hld sg (wI kvs a) (wI kvs b)=true then y else n)
 | .fin=>none
 | .spin=>none
theorem Wb(kvs:List (Key×D))(x:Str)(a:Opd)(sg:Str)(b:Opd)(t:Nat):stp kvs (.sum x a sg b t)=(mkS sg (wI kvs a) (wI kvs b)).map fun w=>(sumT x (wI kvs a) sg (wI kvs b) w,putD kvs (Sum.inr x) (.int w),t):=rfl
noncomputable def Nd.goes:Nd→Bool
 | .sum _ _ _ _ _=>true
 | .test _ _ _ _ _=>true
 | _=>false
def NB:Nd→Prop
 | .sum _ a _ b _=>OB a∧OB b
 | .test a sg b _ _=>OB a∧OB b∧(sg="<"∨sg="=")
 | _=>True
def onS{α:Type}(o:Option α)(F:α→Prop)(E:Prop):Prop:=match o with
 | some x=>F x
 | none=>E
structure Fine(n:Nat)(kvs:List (Key×D)):Prop where
 mi:MI n kvs
 lo:64≤n
 hi:n≤8000
theorem Fine.log{n:Nat}{kvs:List (Key×D)}(h:Fine n kvs){o:Opd}(ho:OB o):(wI kvs o).natAbs.log2<9000:=Nat.lt_of_lt_of_le (Qw (h.mi.wth h.lo ho) (by have:=h.lo;omega)) (by have:=h.hi;omega)
def Zj(B:Addr)(f:Int→Int→Int):DSp:=fun ds M Q Z=>∃a b:Int,ds=[.int a,.int b]∧b.natAbs.log2<9000∧(if b=0 then Z B .non M else Q (.int (f a b)) M)
def Zx(B:Addr):DSp:=fun ds M Q Z=>∃(sg:Str) (a b:Int),ds=[.str sg,.int a,.int b]∧b.natAbs.log2<9000∧onS (mkS sg a b) (fun v=>Q (.int v) M) (Z B .non M)
def Zm:DSp:=fun ds M Q _=>∃(sg:Str) (a b:Int),ds=[.str sg,.int a,.int b]∧Q (.bl (hld sg a b)) M
def Zl:DSp:=fun ds M Q _=>∃(o:Opd) (h n:Nat) (kvs:List (Key×D)),ds=[o.d,.ref h]∧Zd M h=some kvs∧MI n kvs∧Q (.int (wI kvs o)) M
def Z8(B:Addr):DSp:=fun ds M Q Z=>∃(x:Str) (a:Opd) (sg:Str) (b:Opd) (t h n:Nat) (kvs:List (Key×D)),ds=[.str x,a.d,.str sg,b.d,.ref h]∧Zd M h=some kvs∧Fine n kvs∧OB b∧onS (stp kvs (.sum x a sg b t)) (fun s=>Q s.1 M) (Z B .non M)
def Z7:DSp:=fun ds M Q _=>∃(a:Opd) (sg:Str) (b:Opd) (h n:Nat) (kvs:List (Key×D)),ds=[a.d,.str sg,b.d,.ref h]∧Zd M h=some kvs∧Fine n kvs∧Q (testT (wI kvs a) sg (wI kvs b) (hld sg (wI kvs a) (wI kvs b))) M
def Zo(B:Addr):DSp:=fun ds M Q Z=>∃(d:Nd) (h n:Nat) (kvs:List (Key×D)),ds=[d.d,.ref h]∧Zd M h=some kvs∧Fine n kvs∧NB d∧d.goes=true∧onS (stp kvs d) (fun s=>Q s.1 M) (Z B .non M)
def Bh(h:Nat)(dd:D)(M:Z0)(Q:DK):Nd→Prop
 | .sum x _ _ _ t=>∃s0 s1 s2 s3 s4 v kvs,dd= .tup [s0,s1,s2,s3,s4,v]∧Zd M h=some kvs∧kvs.length<sizeLine∧Q (.int (t:Nat)) (M.set h (.dct (putD kvs (Sum.inr x) v)))
 | .test _ _ _ y n=>∃s0 s1 s2 s3 b,dd= .tup [s0,s1,s2,s3,.bl b]∧Q (.int ((if b=true then y else n:Nat):Int)) M
 | .fin=>False
 | .spin=>False
def Zn:DSp:=fun ds M Q _=>∃(n:Nd) (dd:D) (h:Nat),ds=[n.d,dd,.ref h]∧Bh h dd M Q n
section
variable{K:PySem.W.Frag}{J B TG:Addr}
theorem B7{Γ}:∀ds M Q Z,Zj B qdiv ds M Q Z→tss ⟨K,Γ,[.cls J,.cls B,.cls TG,.int 40]⟩ Z b_quotient {nx:=fun _ M=>Q .non M,rt:=Q} (start0 V5 ds) M:=by
 rintro ds M Q Z ⟨a,b,rfl,hb,q⟩
 simp only[b_quotient,V5]
 walk_at "ev"
 by_cases h:b=0
 ·rw[if_pos h] at q ⊢
  walk_at "ev"
  exact q
 ·rw[if_neg h] at q ⊢
  simp only[Tn]
  walk_at "ev"
  exact⟨⟨h,hb⟩,q⟩
theorem Zz7{Γ}:∀ds M Q Z,Zj B qmod ds M Q Z→tss ⟨K,Γ,[.cls J,.cls B,.cls TG,.int 40]⟩ Z b_rest {nx:=fun _ M=>Q .non M,rt:=Q} (start0 Eg ds) M:=by
 rintro ds M Q Z ⟨a,b,rfl,hb,q⟩
 simp only[b_rest,Eg]
 walk_at "ev"
 by_cases h:b=0
 ·rw[if_pos h] at q ⊢
  walk_at "ev"
  exact q
 ·rw[if_neg h] at q ⊢
  simp only[Gm]
  walk_at "ev"
  exact⟨h,q⟩
theorem Zz3{Γ G}(g0:Γ[0]?=some (Zj B qdiv))(g1:Γ[1]?=some (Zj B qmod)):∀ds M Q Z,Zx B ds M Q Z→tss ⟨K,Γ,G⟩ Z b_made {nx:=fun _ M=>Q .non M,rt:=Q} (start0 Ed ds) M:=by
 rintro ds M Q Z ⟨sg,a,b,rfl,hb,q⟩
 unfold mkS at q
 simp only[b_made,Ed]
 walk_at "ev"
 by_cases h:sg="+"
 ·rw[if_pos h] at q ⊢
  try walk_at "ev"
  exact q
 rw[if_neg h] at q ⊢
 simp only[Gr]
 walk_at "ev"
 by_cases h:sg="-"
 ·rw[if_pos h] at q ⊢
  try walk_at "ev"
  exact q
 rw[if_neg h] at q ⊢
 simp only[Gw]
 walk_at "ev"
 by_cases h:sg="/"
 ·rw[if_pos h] at q ⊢
  try walk_at "ev"
  refine⟨a,b,rfl,hb,?_⟩
  split
  ·rename_i e;rw[if_pos e] at q;exact q
  ·rename_i e;rw[if_neg e] at q;exact q
 rw[if_neg h] at q ⊢
 simp only[Fm]
 walk_at "ev"
 by_cases h:sg="rest"
 ·rw[if_pos h] at q ⊢
  try walk_at "ev"
  refine⟨a,b,rfl,hb,?_⟩
  split
  ·rename_i e;rw[if_pos e] at q;exact q
  ·rename_i e;rw[if_neg e] at q;exact q
 rw[if_neg h] at q ⊢
 simp only[Fg]
 walk_at "ev"
 by_cases h:sg="&"
 ·rw[if_pos h] at q ⊢
  try walk_at "ev"
  exact q
 rw[if_neg h] at q ⊢
 simp only[E9]
 walk_at "ev"
 exact q
theorem Zr8{Γ G}:∀ds M Q Z,Zm ds M Q Z→tss ⟨K,Γ,G⟩ noX b_holds {nx:=fun _ M=>Q .non M,rt:=Q} (start0 O1 ds) M:=by
 rintro ds M Q Z ⟨sg,a,b,rfl,q⟩
 unfold hld at q
 simp only[b_holds,O1]
 walk_at "ev"
 by_cases h:sg="<"
 ·rw[if_pos h] at q ⊢
  try walk_at "ev"
  exact q
 rw[if_neg h] at q ⊢
 simp only[Ja]
 walk_at "ev"
 exact q
theorem Zu1{Γ G}:∀ds M Q Z,Zl ds M Q Z→tss ⟨K,Γ,G⟩ noX b_worth {nx:=fun _ M=>Q .non M,rt:=Q} (start0 Pt ds) M:=by
 rintro ds M Q Z ⟨o,h,n,kvs,rfl,hd,hm,q⟩
 simp only[b_worth,Pt]
 cases o with
 | no i=>
  simp only[Opd.d]
  walk_at "ev"
  simp only[Nh]
  walk_at "ev"
  exact q
 | nm x=>
  simp only[Opd.d]
  walk_at "ev"
  refine⟨by rw[hd];rfl,kvs,_,hd,rfl,?_⟩
  rw[hm.get]
  exact q
theorem O0{Γ G}(g2:Γ[2]?=some (Zx B))(g4:Γ[4]?=some Zl):∀ds M Q Z,Z8 B ds M Q Z→tss ⟨K,Γ,G⟩ Z b_deed_of_sum {nx:=fun _ M=>Q .non M,rt:=Q} (start0 Xq ds) M:=by
 rintro ds M Q Z ⟨x,a,sg,b,t,h,n,kvs,rfl,hd,fi,hb,q⟩
 simp only[b_deed_of_sum,Xq]
 walk_at "ev"
 refine⟨a,h,n,kvs,rfl,hd,fi.mi,?_⟩
 walk_at "ev"
 refine⟨b,h,n,kvs,rfl,hd,fi.mi,?_⟩
 walk_at "ev"
 refine⟨sg,_,_,rfl,fi.log hb,?_⟩
 rw[Wb] at q
 cases e:mkS sg (wI kvs a) (wI kvs b) with
 | none=>rw[e] at q;exact q
 | some w=>rw[e] at q;exact⟨Z1 (by decide),q⟩
theorem Q6{Γ G}(g3:Γ[3]?=some Zm)(g4:Γ[4]?=some Zl):∀ds M Q Z,Z7 ds M Q Z→tss ⟨K,Γ,G⟩ noX b_deed_of_test {nx:=fun _ M=>Q .non M,rt:=Q} (start0 Xe ds) M:=by
 rintro ds M Q Z ⟨a,sg,b,h,n,kvs,rfl,hd,fi,q⟩
 simp only[b_deed_of_test,Xe]
 walk_at "ev"
 refine⟨a,h,n,kvs,rfl,hd,fi.mi,?_⟩
 walk_at "ev"
 refine⟨b,h,n,kvs,rfl,hd,fi.mi,?_⟩
 walk_at "ev"
 exact⟨sg,_,_,rfl,Z1 (by decide),q⟩
theorem Bx{Γ G}(g5:Γ[5]?=some (Z8 B))(g6:Γ[6]?=some Z7):∀ds M Q Z,Zo B ds M Q Z→tss ⟨K,Γ,G⟩ Z b_deed_of {nx:=fun _ M=>Q .non M,rt:=Q} (start0 T4 ds) M:=by
 rintro ds M Q Z ⟨d,h,n,kvs,rfl,hd,fi,nb,go,q⟩
 simp only[b_deed_of,T4]
 cases d with
 | sum x a sg b t=>
  simp only[Nd.d]
  walk_at "ev"
  refine⟨_,rfl,?_⟩
  walk_at "ev"
  refine⟨_,rfl,_,rfl,_,rfl,_,rfl,?_⟩
  try walk_at "ev"
  exact⟨x,a,sg,b,t,h,n,kvs,rfl,hd,fi,nb.2,q⟩
 | test a sg b y z=>
  simp only[Nd.d]
  walk_at "ev"
  refine⟨_,rfl,?_⟩
  walk_at "ev"
  rw[if_neg (by decide+kernel)]
  try walk_at "ev"
  simp only[Rs]
  walk_at "ev"
  refine⟨_,rfl,_,rfl,_,rfl,?_⟩
  try walk_at "ev"
  exact⟨a,sg,b,h,n,kvs,rfl,hd,fi,q⟩
 | fin=>cases go
 | spin=>cases go
theorem Zg7{Γ G}:∀ds M Q Z,Zn ds M Q Z→tss ⟨K,Γ,G⟩ noX b_behind {nx:=fun _ M=>Q .non M,rt:=Q} (start0 Sc ds) M:=by
 rintro ds M Q Z ⟨n,dd,h,rfl,q⟩
 simp only[b_behind,Sc]
 cases n with
 | sum x a sg b t=>
  obtain⟨s0,s1,s2,s3,s4,v,kvs,rfl,hd,hl,q⟩:=q
  simp only[Nd.d]
  walk_at "ev"
  refine⟨_,rfl,?_⟩
  walk_at "ev"
  refine⟨_,rfl,_,rfl,.inr ⟨kvs,_,hd,rfl,hl,?_⟩⟩
  try walk_at "ev"
  exact⟨_,rfl,q⟩
 | test a sg b y n=>
  obtain⟨s0,s1,s2,s3,bb,rfl,q⟩:=q
  simp only[Nd.d]
  walk_at "ev"
  refine⟨_,rfl,?_⟩
  walk_at "ev"
  rw[if_neg (by decide+kernel)]
  try walk_at "ev"
  simp only[Qf]
  walk_at "ev"
  refine⟨_,rfl,?_⟩
  try walk_at "ev"
  cases bb with
  | true=>exact⟨_,rfl,q⟩
  | false=>exact⟨_,rfl,q⟩
 | fin=>exact q.elim
 | spin=>exact q.elim
end
noncomputable def wrd:Option Nd→Str
 | some .fin=>"end"
 | _=>"on"
noncomputable def runN(nds:List Nd):Nat→Nat→List (Key×D)→List D×Str×List (Key×D)
 | 0,pl,kv=>([],wrd nds[pl]?,kv)
 | k+1,pl,kv=>match nds[pl]? with
  | some n=>match stp kv n with
   | some s=>(s.1::(runN nds k s.2.2 s.2.1).1,(runN nds k s.2.2 s.2.1).2)
   | none=>([],if n.goes=true then "fault" else wrd (some n),kv)
  | none=>([],"on",kv)
theorem Sm{nds:List Nd}{k pl:Nat}{kv:List (Key×D)}{n:Nd}{s:D×List (Key×D)×Nat}(h:nds[pl]?=some n)(e:stp kv n=some s):runN nds (k+1) pl kv=(s.1::(runN nds k s.2.2 s.2.1).1,(runN nds k s.2.2 s.2.1).2):=by
 show(match nds[pl]? with | some n=>(match stp kv n with | some s=>(s.1::(runN nds k s.2.2 s.2.1).1,(runN nds k s.2.2 s.2.1).2) | none=>([],if n.goes=true then "fault" else wrd (some n),kv)) | none=>([],"on",kv))=_
 rw[h];dsimp only;rw[e]
theorem Sh{nds:List Nd}{k pl:Nat}{kv:List (Key×D)}{n:Nd}(h:nds[pl]?=some n)(g:n.goes=true)(e:stp kv n=none):runN nds (k+1) pl kv=([],("fault":Str),kv):=by
 show(match nds[pl]? with | some n=>(match stp kv n with | some s=>(s.1::(runN nds k s.2.2 s.2.1).1,(runN nds k s.2.2 s.2.1).2) | none=>([],if n.goes=true then "fault" else wrd (some n),kv)) | none=>([],"on",kv))=_
 rw[h];dsimp only;rw[e,g];rfl
theorem W0{nds:List Nd}{k pl:Nat}{kv:List (Key×D)}{n:Nd}(h:nds[pl]?=some n)(g:n.goes=false∨k=0):runN nds k pl kv=([],wrd (some n),kv):=by
 cases k with
 | zero=>show([],wrd nds[pl]?,kv)=_;rw[h]
 | succ k=>
  have g:=g.resolve_right (Nat.succ_ne_zero k)
  have e:stp kv n=none:=by cases n<;>first | rfl | cases g
  show(match nds[pl]? with | some n=>(match stp kv n with | some s=>(s.1::(runN nds k s.2.2 s.2.1).1,(runN nds k s.2.2 s.2.1).2) | none=>([],if n.goes=true then "fault" else wrd (some n),kv)) | none=>([],"on",kv))=_
  rw[h];dsimp only;rw[e,g];rfl
def G5(nds:List Nd):Prop:=∀n∈nds,NB n∧∀t∈n.gs,t<nds.length
theorem T5(m:List (Key×D))(k:Key)(v:D):(putD m k v).length≤m.length+1:=by
 unfold putD
 split
 ·rw[List.length_map];omega
 ·rw[List.length_append,List.length_singleton];exact Nat.le_refl _
theorem Z36{n:Nat}{kv:List (Key×D)}{d:Nd}{s:D×List (Key×D)×Nat}(h:MI n kv)(hn:64≤n)(nb:NB d)(e:stp kv d=some s):MI (n+1) s.2.1∧s.2.1.length≤kv.length+1∧s.2.2∈d.gs:=by
 cases d with
 | sum x a sg b t=>
  rw[Wb,Option.map_eq_some_iff] at e
  obtain⟨w,e,rfl⟩:=e
  exact⟨h.put _ (Zt6 (h.wth hn nb.1) (h.wth hn nb.2) e),T5 _ _ _,by simp[Nd.gs]⟩
 | test a sg b y z=>
  cases e
  refine⟨h.mono (by omega),by dsimp only;omega,?_⟩
  dsimp only
  split<;>simp[Nd.gs]
 | fin=>cases e
 | spin=>cases e
def Zh:DSp:=fun ds M Q _=>∃(a pl mm most:Nat) (nds:List Nd) (kvs:List (Key×D)),ds=[.ref a,.int (pl:Nat),.ref mm,.int (most:Nat)]∧Za M a=some (nds.map Nd.d)∧Zd M mm=some kvs∧G5 nds∧pl<nds.length∧MI 1064 kvs∧kvs.length≤500∧most≤1000∧
 Q (.tup [.ref (M.length+1),.str (runN nds most pl kvs).2.1,.ref M.length]) (M++[.dct (runN nds most pl kvs).2.2,.lst (runN nds most pl kvs).1])
section
variable{K:PySem.W.Frag}{J B TG:Addr}
theorem Ct{Γ}(hc:Catch K B B true)(g7:Γ[11]?=some Zn)(g8:Γ[12]?=some (Zo B)):∀ds M Q Z,Zh ds M Q Z→tss ⟨K,Γ,[.cls J,.cls B,.cls TG,.int 40]⟩ noX b_run_from {nx:=fun _ M=>Q .non M,rt:=Q} (start0 V8 ds) M:=by
 rintro ds M Q Z ⟨a,p0,mm,most,nds,kvs,rfl,ha,hd,ok,hp0,mi0,kl0,hmost,q⟩
 simp only[b_run_from,V8]
 walk_at "ev"
 refine .inl ⟨kvs,hd,?_⟩
 walk_at "ev"
 refine⟨Z1 (by decide),?_⟩
 walk_at "ev"
 rw[show(M++[Cell.dct kvs]:Z0).length=M.length+1 by simp,List.append_assoc,List.cons_append,List.nil_append]
 have rN:∀c d,Za (M++[c,d]) a=some (nds.map Nd.d):=fun c d=>Zb ha
 have rH:∀kv d,Zd (M++[.dct kv,d]) M.length=some kv:=fun kv d=>Y0 _ _ _
 have rDs:∀c xs,Zc (M++[c,.lst xs]) (M.length+1)=some xs:=fun c xs=>by rw[Yj];rfl
 have sDs:∀c e xs,(M++[c,e]:Z0).set (M.length+1) (.lst xs)=M++[c,.lst xs]:=fun c e xs=>by rw[Yv];rfl
 have sH:∀c e d,(M++[c,e]:Z0).set M.length d=M++[d,e]:=fun c e d=>Yt _ _ _ _
 have get:∀{i:Nat} {n:Nd},nds[i]?=some n→(nds.map Nd.d)[i]?=some n.d:=fun h=>by rw[List.getElem?_map,h];rfl
 refine⟨fun k σ M'=>∃(pl:Nat) (kv:List (Key×D)) (dsd:List D) (d7:Option D),σ=[some (.ref a),some (.int (p0:Nat)),some (.ref mm),some (.int (most:Nat)),some (.ref M.length),some (.ref (M.length+1)),some (.int (pl:Nat)),d7,none]∧M'=M++[.dct kv,.lst dsd]∧dsd.length+k=most∧pl<nds.length∧MI (1064+dsd.length) kv∧kv.length≤500+dsd.length∧(dsd++(runN nds k pl kv).1,(runN nds k pl kv).2)=runN nds most p0 kvs,
  ⟨most,p0,kvs,[],none,rfl,rfl,Nat.zero_add _,hp0,mi0,kl0,rfl⟩,?_⟩
 rintro k σ M' ⟨pl,kv,dsd,d7,rfl,rfl,hk,hpl,mi,kl,inv⟩
 obtain⟨n,hn⟩:∃n,nds[pl]?=some n:=⟨_,List.getElem?_eq_getElem hpl⟩
 obtain⟨nb,ngs⟩:=ok n (List.mem_of_getElem? hn)
 have out:n.goes=false∨k=0→tss ⟨K,Γ,[.cls J,.cls B,.cls TG,.int 40]⟩ noX V1 {nx:=fun _ M=>Q .non M,rt:=Q} [some (.ref a),some (.int (p0:Nat)),some (.ref mm),some (.int (most:Nat)),some (.ref M.length),some (.ref (M.length+1)),some (.int (pl:Nat)),d7,none] (M++[.dct kv,.lst dsd]):=by
  intro hg
  have q':=q
  rw[←inv,W0 hn hg,List.append_nil] at q'
  simp only[V1]
  walk_at "ev"
  refine ix_l (rN _ _) (get hn) ?_
  cases n with
  | fin=>
   simp only[Nd.d]
   walk_at "ev"
   refine⟨_,rfl,?_⟩
   walk_at "ev"
   exact⟨Z1 (by decide),q'⟩
  | _=>
   simp only[Nd.d]
   walk_at "ev"
   refine⟨_,rfl,?_⟩
   walk_at "ev"
   rw[if_neg (by decide+kernel)]
   try walk_at "ev"
   exact⟨Z1 (by decide),q'⟩
 have tests:∀(T E0:Z0→Prop),(n.goes=true→0<k→T (M++[.dct kv,.lst dsd]))→(n.goes=false∨k=0→E0 (M++[.dct kv,.lst dsd]))→
   ixD (M++[.dct kv,.lst dsd]) (.ref a) (.int (pl:Nat)) fun d=>ixD (M++[.dct kv,.lst dsd]) d (.int 0) fun d=>2≤sizeLine∧inQ (M++[.dct kv,.lst dsd]) d (.tup [.str "sum",.str "test"]) fun r=>
    if r=true then bfD K .len [.ref (M.length+1)] (M++[.dct kv,.lst dsd]) fun z M1=>cmD M1 .lt z (.int (most:Nat)) fun r=>if r=true then T M1 else E0 M1
    else if r=true then T (M++[.dct kv,.lst dsd]) else E0 (M++[.dct kv,.lst dsd]):=by
  intro T E0 hT hE
  have yes:∀(r:Bool),r=true→n.goes=true→(if r=true then bfD K .len [.ref (M.length+1)] (M++[.dct kv,.lst dsd]) fun z M1=>cmD M1 .lt z (.int (most:Nat)) fun r=>if r=true then T M1 else E0 M1
    else if r=true then T (M++[.dct kv,.lst dsd]) else E0 (M++[.dct kv,.lst dsd])):=by
   rintro r rfl hg
   rw[if_pos rfl]
   refine Yu (Z3 (rDs _ _)) ?_
   show if decide ((dsd.length:Int)< (most:Int))=true then _ else _
   by_cases hl:dsd.length<most
   ·rw[if_pos (by simpa using hl)]
    exact hT hg (by omega)
   ·rw[if_neg (by simpa using hl)]
    exact hE (.inr (by omega))
  refine ix_l (rN _ _) (get hn) ?_
  cases n with
  | fin=>exact⟨_,rfl,Z1 (by decide),rfl,rfl,hE (.inl rfl)⟩
  | spin=>exact⟨_,rfl,Z1 (by decide),rfl,rfl,hE (.inl rfl)⟩
  | sum y o1 sg o2 t=>exact⟨_,rfl,Z1 (by decide),rfl,rfl,yes _ rfl rfl⟩
  | test o1 sg o2 t1 t2=>exact⟨_,rfl,Z1 (by decide),rfl,rfl,yes _ rfl rfl⟩
 walk_at "ev"
 refine tests _ _ (fun hg hk0=>?_) out
 obtain⟨k,rfl⟩:∃k',k=k'+1:=⟨k - 1,by omega⟩
 try dsimp only
 simp only[S4]
 walk_at "ev"
 refine ix_l (rN _ _) (get hn) ?_
 try walk_at "ev"
 refine⟨n,M.length,1064+dsd.length,kv,rfl,rH _ _,⟨mi,by omega,by omega⟩,nb,hg,?_⟩
 cases e:stp kv n with
 | none=>
  refine⟨hc,?_⟩
  try walk_at "ev"
  refine⟨Z1 (by decide),?_⟩
  rw[←inv,Sh hn hg e,List.append_nil] at q
  exact q
 | some s=>
  obtain⟨mi',len',gs'⟩:=Z36 mi (by omega) nb e
  rw[Sm hn e] at inv
  have hs:=ngs _ gs'
  show _
  dsimp only[onS]
  try walk_at "ev"
  simp only[Tq]
  walk_at "ev"
  refine⟨Y8 (Z3 (rDs _ _)),_,rDs _ _,Z6 (by omega),?_⟩
  rw[sDs]
  try walk_at "ev"
  refine ix_l (rN _ _) (get hn) ?_
  try walk_at "ev"
  have fin:∀d7,∃m',m'<k+1∧∃(pl:Nat) (kv':List (Key×D)) (dsd':List D) (d:Option D),[some (.ref a),some (.int (p0:Nat)),some (.ref mm),some (.int (most:Nat)),some (.ref M.length),some (.ref (M.length+1)),some (.int (s.2.2:Nat)),d7,none]=[some (.ref a),some (.int (p0:Nat)),some (.ref mm),some (.int (most:Nat)),some (.ref M.length),some (.ref (M.length+1)),some (.int (pl:Nat)),d,none]∧(M++[.dct s.2.1,.lst (dsd++[s.1])]:Z0)=M++[.dct kv',.lst dsd']∧dsd'.length+m'=most∧pl<nds.length∧MI (1064+dsd'.length) kv'∧kv'.length≤500+dsd'.length∧(dsd'++(runN nds m' pl kv').1,(runN nds m' pl kv').2)=runN nds most p0 kvs:=by
   intro d7
   refine⟨k,by omega,s.2.2,s.2.1,dsd++[s.1],d7,rfl,rfl,by rw[List.length_append,List.length_singleton];omega,hs,by rw[List.length_append,List.length_singleton];exact mi',by rw[List.length_append,List.length_singleton];omega,?_⟩
   rw[←inv,List.append_assoc]
   rfl
  cases n with
  | sum x o1 sg o2 t=>
   rw[Wb,Option.map_eq_some_iff] at e
   obtain⟨w,e,rfl⟩:=e
   refine⟨_,_,M.length,rfl,_,_,_,_,_,_,_,rfl,rH _ _,Z6 (by omega),?_⟩
   rw[sH]
   try walk_at "ev"
   exact fin _
  | test o1 sg o2 y z=>
   cases e
   refine⟨_,_,M.length,rfl,_,_,_,_,_,rfl,?_⟩
   try walk_at "ev"
   exact fin _
  | fin=>cases hg
  | spin=>cases hg
end
noncomputable def chs(rows:List Rw):Nat→Nat→Option Nat
 | 0,_=>none
 | f+1,p=>match jmp rows p with
  | some q=>chs rows f q
  | none=>some p
noncomputable def runG(nds:List Nd)(f:Nat→Option Nat):Nat→Option Nat→List (Key×D)→List D×Str×List (Key×D)
 | _,none,kv=>([],"on",kv)
 | 0,some p,kv=>([],wrd nds[p]?,kv)
 | k+1,some p,kv=>match nds[p]? with
  | some n=>match stp kv n with
   | some s=>(s.1::(runG nds f k (f s.2.2) s.2.1).1,(runG nds f k (f s.2.2) s.2.1).2)
   | none=>([],if n.goes=true then "fault" else wrd (some n),kv)
  | none=>([],"on",kv)
noncomputable def nds0(rows:List Rw):List Nd:=Zq rows (fun p=>p)
noncomputable def lawC(rows:List Rw)(k:Nat)(c:Option Nat)(kv:List (Key×D)):List D×Str×List (Key×D):=runG (nds0 rows) (chs rows (rows.length+1)) k c kv
theorem Oh(rows:List Rw)(k:Nat)(kv:List (Key×D)):lawC rows k none kv=([],("on":Str),kv):=by unfold lawC;cases k<;>rfl
theorem Zi1{rows:List Rw}{k p:Nat}{kv:List (Key×D)}{n:Nd}{s:D×List (Key×D)×Nat}(h:(nds0 rows)[p]?=some n)(e:stp kv n=some s):lawC rows (k+1) (some p) kv=(s.1::(lawC rows k (chs rows (rows.length+1) s.2.2) s.2.1).1,(lawC rows k (chs rows (rows.length+1) s.2.2) s.2.1).2):=by
 unfold lawC
 show(match (nds0 rows)[p]? with | some n=>(match stp kv n with | some s=>(s.1::(runG (nds0 rows) (chs rows (rows.length+1)) k (chs rows (rows.length+1) s.2.2) s.2.1).1,(runG (nds0 rows) (chs rows (rows.length+1)) k (chs rows (rows.length+1) s.2.2) s.2.1).2) | none=>([],if n.goes=true then "fault" else wrd (some n),kv)) | none=>([],"on",kv))=_
 rw[h];dsimp only;rw[e]
theorem Zc3{rows:List Rw}{k p:Nat}{kv:List (Key×D)}{n:Nd}(h:(nds0 rows)[p]?=some n)(g:n.goes=true)(e:stp kv n=none):lawC rows (k+1) (some p) kv=([],("fault":Str),kv):=by
 unfold lawC
 show(match (nds0 rows)[p]? with | some n=>(match stp kv n with | some s=>(s.1::(runG (nds0 rows) (chs rows (rows.length+1)) k (chs rows (rows.length+1) s.2.2) s.2.1).1,(runG (nds0 rows) (chs rows (rows.length+1)) k (chs rows (rows.length+1) s.2.2) s.2.1).2) | none=>([],if n.goes=true then "fault" else wrd (some n),kv)) | none=>([],"on",kv))=_
 rw[h];dsimp only;rw[e,g];rfl
theorem Fh{rows:List Rw}{k p:Nat}{kv:List (Key×D)}{n:Nd}(h:(nds0 rows)[p]?=some n)(g:n.goes=false∨k=0):lawC rows k (some p) kv=([],wrd (some n),kv):=by
 unfold lawC
 cases k with
 | zero=>show([],wrd (nds0 rows)[p]?,kv)=_;rw[h]
 | succ k=>
  have g:=g.resolve_right (Nat.succ_ne_zero k)
  have e:stp kv n=none:=by cases n<;>first | rfl | cases g
  show(match (nds0 rows)[p]? with | some n=>(match stp kv n with | some s=>(s.1::(runG (nds0 rows) (chs rows (rows.length+1)) k (chs rows (rows.length+1) s.2.2) s.2.1).1,(runG (nds0 rows) (chs rows (rows.length+1)) k (chs rows (rows.length+1) s.2.2) s.2.1).2) | none=>([],if n.goes=true then "fault" else wrd (some n),kv)) | none=>([],"on",kv))=_
  rw[h];dsimp only;rw[e,g];rfl
theorem Ft{rows:List Rw}{f p q:Nat}(h:jmp rows p=some q):chs rows (f+1) p=chs rows f q:=by
 show(match jmp rows p with | some q=>chs rows f q | none=>some p)=_
 rw[h]
theorem Fe{rows:List Rw}{f p:Nat}(h:jmp rows p=none):chs rows (f+1) p=some p:=by
 show(match jmp rows p with | some q=>chs rows f q | none=>some p)=_
 rw[h]
theorem Pk{rows:List Rw}(ok:RwOk rows){L:Nat→Nat}(ln:Lands rows L):∀(f p r:Nat),p<rows.length→chs rows f p=some r→L p=r∧jmp rows r=none∧r<rows.length
 | 0,p,r,_,h=>by cases h
 | f+1,p,r,hp,h=>by
  cases e:jmp rows p with
  | none=>rw[Fe e] at h;cases h;exact⟨ln.no _ hp e,e,hp⟩
  | some q=>
   rw[Ft e] at h
   obtain⟨a,b,c⟩:=Pk ok ln f q r (Z29 ok e) h
   exact⟨(ln.yes _ _ hp e).trans a,b,c⟩
noncomputable def itJ(J:Nat→Option Nat):Nat→Nat→Option Nat
 | 0,p=>some p
 | n+1,p=>match itJ J n p with
  | some q=>J q
  | none=>none
theorem Jl{J:Nat→Option Nat}{n p q:Nat}(h:itJ J n p=some q):itJ J (n+1) p=J q:=by
 show(match itJ J n p with | some q=>J q | none=>none)=_
 rw[h]
theorem Re{J:Nat→Option Nat}{p q:Nat}(h:J p=some q):∀n,itJ J (n+1) p=itJ J n q
 | 0=>by rw[Jl (show itJ J 0 p=some p from rfl)];exact h
 | n+1=>by
  show(match itJ J (n+1) p with | some q=>J q | none=>none)=(match itJ J n q with | some q=>J q | none=>none)
  rw[Re h n]
theorem Rg{J:Nat→Option Nat}{p:Nat}:∀{n m:Nat},m≤n→(itJ J n p).isSome=true→(itJ J m p).isSome=true
 | 0,m,h,e=>by rw[Nat.le_zero.mp h];exact e
 | n+1,m,h,e=>by
  rcases Nat.lt_or_eq_of_le h with h | h
  ·refine Rg (Nat.le_of_lt_succ h) ?_
   cases e2:itJ J n p with
   | some q=>rfl
   | none=>
    have:itJ J (n+1) p=none:=by show(match itJ J n p with | some q=>J q | none=>none)=_;rw[e2]
    rw[this] at e;cases e
  ·rw[h];exact e
theorem Fi{J:Nat→Option Nat}{p i j:Nat}(h:itJ J i p=itJ J j p):∀d,itJ J (i+d) p=itJ J (j+d) p
 | 0=>h
 | d+1=>by
  show(match itJ J (i+d) p with | some q=>J q | none=>none)=(match itJ J (j+d) p with | some q=>J q | none=>none)
  rw[Fi h d]
theorem Zv0{J:Nat→Option Nat}{p r:Nat}(h:LN.Orb J p r):∃t,itJ J t p=some r:=by
 induction h with
 | refl p=>exact⟨0,rfl⟩
 | step e _ ih=>obtain⟨t,ht⟩:=ih;exact⟨t+1,by rw[Re e];exact ht⟩
theorem Y22{J:Nat→Option Nat}{N p r t:Nat}(lt:∀p q,p<N→J p=some q→q<N)(hp:p<N)(h:itJ J t p=some r)(hr:J r=none):t<N:=by
 have some_:∀i,i≤t→∃q,itJ J i p=some q∧q<N:=by
  intro i hi
  induction i with
  | zero=>exact⟨p,rfl,hp⟩
  | succ i ih=>
   obtain⟨q,e,hq⟩:=ih (by omega)
   have:=Rg hi (by rw[h];rfl)
   obtain⟨q2,e2⟩:=Option.isSome_iff_exists.mp this
   rw[Jl e] at e2
   exact⟨q2,by rw[Jl e];exact e2,lt _ _ hq e2⟩
 have inj:∀i j,i<j→j≤t→itJ J i p≠itJ J j p:=by
  intro i j hij hj e
  have e2:=Fi e (t - j)
  rw[show j+(t - j)=t by omega,h] at e2
  have e3:=Jl e2
  rw[hr] at e3
  obtain⟨q,e4,_⟩:=some_ (i+(t - j)+1) (by omega)
  rw[e3] at e4;cases e4
 have:=ND.Xi N ((List.range (t+1)).map fun i=>(itJ J i p).getD 0) ?_ ?_
 ·rw[List.length_map,List.length_range] at this;omega
 ·rw[List.nodup_iff_pairwise_ne,List.pairwise_map]
  refine List.Pairwise.imp_of_mem ?_ List.pairwise_lt_range
  intro i j hi hj hij e
  rw[List.mem_range] at hi hj
  obtain⟨q1,e1,_⟩:=some_ i (by omega)
  obtain⟨q2,e2,_⟩:=some_ j (by omega)
  rw[e1,e2] at e
  have e:q1=q2:=e
  exact inj i j hij (by omega) (by rw[e1,e2,e])
 ·intro x hx
  obtain⟨i,hi,rfl⟩:=List.mem_map.mp hx
  rw[List.mem_range] at hi
  obtain⟨q,e,hq⟩:=some_ i (by omega)
  rw[e];exact hq
theorem Zk5{rows:List Rw}{r:Nat}(hr:jmp rows r=none):∀(t p f:Nat),itJ (jmp rows) t p=some r→t<f→chs rows f p=some r
 | 0,p,f+1,h,_=>by cases h;exact Fe hr
 | t+1,p,f+1,h,hf=>by
  cases e:jmp rows p with
  | none=>
   have:(itJ (jmp rows) 1 p).isSome=true:=Rg (n:=t+1) (m:=1) (by omega) (by rw[h];rfl)
   rw[Jl (show itJ (jmp rows) 0 p=some p from rfl),e] at this
   cases this
  | some q=>
   rw[Ft e]
   rw[Re e] at h
   exact Zk5 hr t q f h (by omega)
 | _,_,0,_,h=>by omega
theorem Zg1{rows:List Rw}(ok:RwOk rows){L:Nat→Nat}(ln:Lands rows L){p:Nat}(hp:p<rows.length)(h:chs rows (rows.length+1) p=none):∃q,jmp rows (L p)=some q:=by
 cases e:jmp rows (L p) with
 | some q=>exact⟨q,rfl⟩
 | none=>
  obtain⟨t,ht⟩:=Zv0 (ln.orb p hp)
  have:=Y22 (N:=rows.length) (fun a b _ hab=>Z29 ok hab) hp ht e
  rw[Zk5 e t p _ ht (by omega)] at h
  cases h
theorem Gn(rows:List Rw)(L:Nat→Nat)(p:Nat)(kv:List (Key×D))(r:Rw):stp kv (r.node rows L p)=(stp kv (r.node rows (fun p=>p) p)).map fun s=>(s.1,s.2.1,L s.2.2):=by
 cases r with
 | sum k x a sg b=>
  show stp kv (.sum x a sg b (L (p+1)))=(stp kv (.sum x a sg b (p+1))).map _
  rw[Wb,Wb,Option.map_map]
  rfl
 | test k a sg b g=>
  show some _=some _
  dsimp only[Option.some.injEq]
  split<;>rfl
 | jump k g=>rfl
 | fin k=>rfl
theorem Gx{rows:List Rw}(ok:RwOk rows){L:Nat→Nat}(ln:Lands rows L){p:Nat}(hp:p<rows.length)(e:chs rows (rows.length+1) p=none){k:Nat}{kv:List (Key×D)}:runN (Zq rows L) k (L p) kv=([],("on":Str),kv):=by
 obtain⟨q,hq⟩:=Zg1 ok ln hp e
 obtain⟨r,hr⟩:∃r,rows[L p]?=some r:=⟨_,List.getElem?_eq_getElem (ln.lt p hp)⟩
 have hn:=Y5 (L:=L) hr
 have:r.node rows L (L p)= .spin:=by
  unfold jmp at hq
  rw[hr] at hq
  cases r with
  | jump _ _=>rfl
  | _=>cases hq
 rw[this] at hn
 rw[W0 hn (.inl rfl)]
 rfl
theorem Ou(rows:List Rw)(L L':Nat→Nat)(p:Nat)(r:Rw):(r.node rows L p).goes=(r.node rows L' p).goes∧wrd (some (r.node rows L p))=wrd (some (r.node rows L' p)):=by cases r<;>exact⟨rfl,rfl⟩
theorem Y19{rows:List Rw}(ok:RwOk rows){p:Nat}{r:Rw}(hr:rows[p]?=some r){kv:List (Key×D)}{s:D×List (Key×D)×Nat}(e:stp kv (r.node rows (fun p=>p) p)=some s):s.2.2<rows.length:=by
 cases r with
 | sum k x a sg b=>
  have e:stp kv (.sum x a sg b (p+1))=some s:=e
  rw[Wb,Option.map_eq_some_iff] at e
  obtain⟨w,_,rfl⟩:=e
  exact ok.last _ _ hr rfl
 | test k a sg b g=>
  cases e
  dsimp only
  split
  ·exact Pd (ok.goal _ (List.mem_of_getElem? hr) g rfl)
  ·exact ok.last _ _ hr rfl
 | jump k g=>cases e
 | fin k=>cases e
theorem Zj3{rows:List Rw}(ok:RwOk rows){L:Nat→Nat}(ln:Lands rows L):∀(k p:Nat) (kv:List (Key×D)),p<rows.length→lawC rows k (chs rows (rows.length+1) p) kv=runN (Zq rows L) k (L p) kv:=by
 intro k
 induction k with
 | zero=>
  intro p kv hp
  cases e:chs rows (rows.length+1) p with
  | none=>
   rw[Oh,Gx ok ln hp e]
  | some q=>
   obtain⟨a,b,c⟩:=Pk ok ln _ _ _ hp e
   obtain⟨r,hr⟩:∃r,rows[q]?=some r:=⟨_,List.getElem?_eq_getElem c⟩
   rw[a,Fh (Y5 hr) (.inr rfl),W0 (Y5 hr) (.inr rfl),(Ou rows _ L q r).2]
 | succ k ih=>
  intro p kv hp
  cases e:chs rows (rows.length+1) p with
  | none=>
   rw[Oh,Gx ok ln hp e]
  | some q=>
   obtain⟨a,b,c⟩:=Pk ok ln _ _ _ hp e
   obtain⟨r,hr⟩:∃r,rows[q]?=some r:=⟨_,List.getElem?_eq_getElem c⟩
   rw[a]
   have hg:=Ou rows (fun p=>p) L q r
   cases es:stp kv (r.node rows (fun p=>p) q) with
   | none=>
    have eL:stp kv (r.node rows L q)=none:=by rw[Gn,es];rfl
    cases g:(r.node rows (fun p=>p) q).goes with
    | true=>rw[Zc3 (Y5 hr) g es,Sh (Y5 hr) (hg.1 ▸ g) eL]
    | false=>rw[Fh (Y5 hr) (.inl g),W0 (Y5 hr) (.inl (hg.1 ▸ g)),hg.2]
   | some s=>
    have eL:stp kv (r.node rows L q)=some (s.1,s.2.1,L s.2.2):=by rw[Gn,es];rfl
    rw[Zi1 (Y5 hr) es,Sm (Y5 hr) eL,ih s.2.2 s.2.1 (Y19 ok hr es)]
noncomputable def rn(r:Rw):Nd:=r.node [] (fun _=>0) 0
noncomputable def six:List Str:=["+","-","/","rest","&","^"]
def SG:Rw→Prop
 | .sum _ x _ sg _=>sg∈six∧PyData.canLay0 (.str x)=true
 | _=>True
def RB(r:Rw):Prop:=NB (rn r)∧SG r
noncomputable def lawR(rows:List Rw)(most:Nat)(kvs:List (Key×D)):List D×Str×List (Key×D):=lawC rows most (chs rows (rows.length+1) 0) kvs
theorem E1{rows:List Rw}(ok:RwOk rows)(rb:∀r∈rows,RB r){L:Nat→Nat}(ln:Lands rows L):G5 (Zq rows L):=by
 intro n hn
 obtain⟨p,hp,e⟩:=List.mem_iff_getElem.mp hn
 rw[Yn] at hp
 obtain⟨r,hr⟩:∃r,rows[p]?=some r:=⟨_,List.getElem?_eq_getElem hp⟩
 have h2:=Y5 (L:=L) hr
 rw[List.getElem?_eq_getElem (by rw[Yn];exact hp),e] at h2
 cases h2
 have hb:=(rb r (List.mem_of_getElem? hr)).1
 rw[Yn]
 cases r with
 | sum k x a sg b=>exact⟨hb,fun t ht=>by cases List.mem_singleton.mp ht;exact ln.lt _ (ok.last _ _ hr rfl)⟩
 | test k a sg b g=>
  refine⟨hb,fun t ht=>?_⟩
  rcases List.mem_cons.mp ht with rfl | ht
  ·exact ln.lt _ (ok.last _ _ hr rfl)
  ·cases List.mem_singleton.mp ht;exact ln.lt _ (Pd (ok.goal _ (List.mem_of_getElem? hr) g rfl))
 | jump k g=>exact⟨trivial,fun t ht=>by cases ht⟩
 | fin k=>exact⟨trivial,fun t ht=>by cases ht⟩
def tells(M:Z0)(Q:DK)(R:List D×Str×List (Key×D)):Prop:=
 ∀M' r h,Kp M M'→Zc M' r=some R.1→Zd M' h=some R.2.2→M.length≤r→M.length≤h→Q (.tup [.ref r,.str R.2.1,.ref h]) M'
def Yq:DSp:=fun ds M Q _=>∃(a mm most:Nat) (rows:List Rw) (kvs:List (Key×D)),ds=[.ref a,.ref mm,.int (most:Nat)]∧Za M a=some (rows.map Rw.d)∧RwOk rows∧(∀r∈rows,RB r)∧Zd M mm=some kvs∧MI 1064 kvs∧kvs.length≤500∧most≤1000∧tells M Q (lawR rows most kvs)
def Z4:DSp:=fun ds M Q _=>∃(a mm most:Nat) (nds:List Nd) (kvs:List (Key×D)),ds=[.ref a,.ref mm,.int (most:Nat)]∧Za M a=some (nds.map Nd.d)∧Zd M mm=some kvs∧G5 nds∧0<nds.length∧MI 1064 kvs∧kvs.length≤500∧most≤1000∧tells M Q (runN nds most 0 kvs)
section
variable{K:PySem.W.Frag}
theorem Y70{Γ G}(g9:Γ[13]?=some Zh)(g11:Γ[16]?=some Zw):∀ds M Q Z,Yq ds M Q Z→tss ⟨K,Γ,G⟩ noX b_run {nx:=fun _ M=>Q .non M,rt:=Q} (start0 Ze9 ds) M:=by
 rintro ds M Q Z ⟨a,mm,most,rows,kvs,rfl,ha,ok,rb,hd,mi,kl,hm,q⟩
 simp only[b_run,Ze9]
 walk_at "ev"
 refine⟨a,rows,rfl,ha,ok,fun L M1 r ln k1 hw hr=>?_⟩
 walk_at "ev"
 refine⟨r,L 0,mm,most,_,kvs,rfl,Z3 hw,k1.D hd,E1 ok rb ln,by rw[Yn];exact ln.lt _ ok.pos,mi,kl,hm,?_⟩
 have e:runN (Zq rows L) most (L 0) kvs=lawR rows most kvs:=(Zj3 ok ln most 0 kvs ok.pos).symm
 rw[e]
 obtain⟨X,rfl⟩:=k1
 refine q _ _ _ ((Kp.new _ _).app _) (by rw[Yj];rfl) (Y0 _ _ _) ?_ ?_
 ·rw[List.length_append];omega
 ·rw[List.length_append];omega
theorem Jy{Γ G}(g9:Γ[13]?=some Zh):∀ds M Q Z,Z4 ds M Q Z→tss ⟨K,Γ,G⟩ noX b_run_graph {nx:=fun _ M=>Q .non M,rt:=Q} (start0 Wm ds) M:=by
 rintro ds M Q Z ⟨a,mm,most,nds,kvs,rfl,ha,hd,ok,pos,mi,kl,hm,q⟩
 simp only[b_run_graph,Wm]
 walk_at "ev"
 refine⟨a,0,mm,most,_,kvs,rfl,ha,hd,ok,pos,mi,kl,hm,?_⟩
 refine q _ _ _ (Kp.new _ _) (by rw[Yj];rfl) (Y0 _ _ _) ?_ ?_
 ·omega
 ·omega
end
theorem Zz2(f:Nat→Nat)(kv:List (Key×D))(n:Nd):stp kv (n.to f)=(stp kv n).map fun s=>(s.1,s.2.1,f s.2.2):=by
 cases n with
 | sum x a sg b t=>
  show stp kv (.sum x a sg b (f t))=(stp kv (.sum x a sg b t)).map _
  rw[Wb,Wb,Option.map_map]
  rfl
 | test a sg b y z=>
  show some _=some _
  dsimp only[Option.some.injEq]
  split<;>rfl
 | fin=>rfl
 | spin=>rfl
theorem Pg(f:Nat→Nat)(n:Nd):(n.to f).goes=n.goes∧wrd (some (n.to f))=wrd (some n):=by cases n<;>exact⟨rfl,rfl⟩
theorem Zw6{kv:List (Key×D)}{n:Nd}{s:D×List (Key×D)×Nat}(e:stp kv n=some s):s.2.2∈n.gs:=by
 cases n with
 | sum x a sg b t=>
  rw[Wb,Option.map_eq_some_iff] at e
  obtain⟨w,_,rfl⟩:=e
  simp[Nd.gs]
 | test a sg b y z=>
  cases e
  dsimp only
  split<;>simp[Nd.gs]
 | fin=>cases e
 | spin=>cases e
theorem Zn7{raw:List Nd}{O:List Nat}(hin:∀x∈O,x<raw.length)(cl:∀x∈O,∀t∈wy raw x,t∈O):∀(k x:Nat) (kv:List (Key×D)),x∈O→runN (gra raw O) k (O.idxOf x) kv=runN raw k x kv:=by
 intro k
 induction k with
 | zero=>
  intro x kv hx
  obtain⟨n,hn⟩:∃n,raw[x]?=some n:=⟨_,List.getElem?_eq_getElem (hin x hx)⟩
  have ho:O[O.idxOf x]?=some x:=by rw[List.getElem?_eq_getElem (List.idxOf_lt_length_iff.mpr hx),List.getElem_idxOf]
  rw[W0 (Gd ho hn) (.inr rfl),W0 hn (.inr rfl),(Pg _ n).2]
 | succ k ih=>
  intro x kv hx
  obtain⟨n,hn⟩:∃n,raw[x]?=some n:=⟨_,List.getElem?_eq_getElem (hin x hx)⟩
  have ho:O[O.idxOf x]?=some x:=by rw[List.getElem?_eq_getElem (List.idxOf_lt_length_iff.mpr hx),List.getElem_idxOf]
  have hg:=Gd ho hn
  have st:=Zz2 (fun y=>O.idxOf y) kv n
  cases e:stp kv n with
  | some s=>
   rw[e] at st
   have ht:s.2.2∈O:=cl x hx _ (by rw[Z11 hn];exact Zw6 e)
   rw[Sm hg st,Sm hn e]
   dsimp only
   rw[ih _ _ ht]
  | none=>
   rw[e] at st
   cases g:n.goes with
   | true=>rw[Sh hg (by rw[(Pg _ n).1];exact g) st,Sh hn g e]
   | false=>rw[W0 hg (.inl (by rw[(Pg _ n).1];exact g)),W0 hn (.inl g),(Pg _ n).2]
theorem Y69(f:Nat→Nat)(n:Nd)(h:NB n):NB (n.to f):=by cases n<;>exact h
theorem Y34{raw:List Nd}{O:List Nat}(ok:G5 raw)(hin:∀x∈O,x<raw.length)(cl:∀x∈O,∀t∈wy raw x,t∈O):G5 (gra raw O):=by
 intro n hn
 unfold gra at hn
 obtain⟨x,hx,rfl⟩:=List.mem_map.mp hn
 obtain⟨d,hd⟩:∃d,raw[x]?=some d:=⟨_,List.getElem?_eq_getElem (hin x hx)⟩
 rw[List.getD_eq_getElem?_getD,hd,Option.getD_some]
 refine⟨Y69 _ _ (ok d (List.mem_of_getElem? hd)).1,fun t ht=>?_⟩
 rw[Nd.gs_to] at ht
 obtain⟨y,hy,rfl⟩:=List.mem_map.mp ht
 rw[O6]
 exact List.idxOf_lt_length_iff.mpr (cl x hx y (by rw[Z11 hd];exact hy))
theorem Z25{M:Z0}{a b:Nat}{c:Cell}(h:a≠b):Zc (M.set a c) b=Zc M b:=by unfold Zc;rw[List.getElem?_set_ne h]
theorem Q7{M:Z0}{a:Nat}{xs:List D}(h:Zc M a=some xs):a<M.length:=by
 unfold Zc at h
 by_cases z:a<M.length
 ·exact z
 ·rw[List.getElem?_eq_none (by omega)] at h;cases h
theorem Zx1{M:Z0}{a:Nat}{xs:List D}(h:Za M a=some xs):a<M.length:=by
 unfold Za at h
 by_cases z:a<M.length
 ·exact z
 ·rw[List.getElem?_eq_none (by omega)] at h;cases h
theorem Jp{M:Z0}{a:Nat}{ys xs:List D}(h:Zc M a=some ys):Zc (M.set a (.lst xs)) a=some xs:=by
 have:=Q7 h
 unfold Zc
 rw[List.getElem?_set_self this]
def Dr(M:Z0)(r:Nat):Prop:=∃l:List Nat,Zc M r=some (natD l)
structure Ke(r:Nat)(M M':Z0):Prop where
 len:M.length≤M'.length
 same:∀x,x<M.length→x≠r→M'[x]?=M[x]?
 dr:Dr M' r
section
variable{r a z:Nat}{M M' M1 M2:Z0}{xs:List D}
theorem Ke.refl(h:Dr M r):Ke r M M:=⟨Nat.le_refl _,fun _ _ _=>rfl,h⟩
theorem Ke.trans(h:Ke r M M1)(g:Ke r M1 M2):Ke r M M2:=⟨Nat.le_trans h.len g.len,fun x hx hn=>by rw[g.same x (Nat.lt_of_lt_of_le hx h.len) hn,h.same x hx hn],g.dr⟩
theorem Ke.app(h:Ke r M M1)(N:Z0):Ke r M (M1++N):=⟨by rw[List.length_append];have:=h.len;omega,fun x hx hn=>by rw[List.getElem?_append_left (by have:=h.len;omega)];exact h.same x hx hn,by obtain⟨l,e⟩:=h.dr;exact⟨l,Zs e⟩⟩
theorem Ke.W(h:Ke r M M')(hx:a≠r)(e:Zc M a=some xs):Zc M' a=some xs:=by
 have:=Q7 e
 unfold Zc at e ⊢
 rw[h.same a this hx]
 exact e
theorem Ke.L(h:Ke r M M')(hx:a≠r)(e:Za M a=some xs):Za M' a=some xs:=by
 have:=Zx1 e
 unfold Za at e ⊢
 rw[h.same a this hx]
 exact e
theorem Ke.set(h:Ke r M M')(hz:M.length≤z)(hr:z≠r)(c:Cell):Ke r M (M'.set z c):=⟨by rw[List.length_set];exact h.len,fun x hx hn=>by rw[List.getElem?_set_ne (by omega)];exact h.same x hx hn,by obtain⟨l,e⟩:=h.dr;exact⟨l,by rw[Z25 hr];exact e⟩⟩
theorem Dr.lt(h:Dr M r):r<M.length:=by obtain⟨l,e⟩:=h;exact Q7 e
theorem Dr.app(h:Dr M r)(N:Z0):Dr (M++N) r:=by obtain⟨l,e⟩:=h;exact⟨l,Zs e⟩
theorem Dr.kp(h:Dr M r)(k:Kp M M1):Dr M1 r:=by obtain⟨N,rfl⟩:=k;exact h.app N
theorem Ke.take{l:List Nat}(h:r<M.length)(N:Z0):Ke r M ((M++N).set r (.lst (natD l))):=by
 refine⟨by rw[List.length_set,List.length_append];omega,fun x hx hn=>?_,l,?_⟩
 ·rw[List.getElem?_set_ne (fun e=>hn e.symm),List.getElem?_append_left hx]
 ·unfold Zc;rw[List.getElem?_set_self (by rw[List.length_append];omega)]
end
def Yx:DSp:=fun ds M Q _=>∃r:Nat,ds=[.ref r]∧Dr M r∧∀(x:Nat) M',Ke r M M'→Q (.int x) M'
def Xb:DSp:=fun ds M Q _=>∃r:Nat,ds=[.ref r]∧Dr M r∧∀(v:Int) M',Bits 64 v→Ke r M M'→Q (.int v) M'
theorem pick{M:Z0}{a:Nat}{xs:List D}{i:Int}{F:D→Prop}(h:Za M a=some xs)(h0:0≤i)(h1:i<xs.length)(q:∀d∈xs,F d):ixD M (.ref a) (.int i) F:=by
 obtain⟨d,e1,e2⟩:=Y79 h0 h1
 exact Y65 h e1 (q d e2)
theorem Si{M:Z0}{a:Nat}{xs:List D}{i m:Int}{F:D→Prop}(h:Za M a=some xs)(h1:m=xs.length)(h2:0<m)(q:∀d∈xs,F d):ixD M (.ref a) (.int (qmod i m)) F:=by
 rw[qm h2]
 exact pick h (Int.emod_nonneg _ (by omega)) (by rw[←h1];exact Int.emod_lt_of_pos _ h2) q
section
variable{K:PySem.W.Frag}
theorem Zn4{Γ G}:∀ds M Q Z,Yx ds M Q Z→tss ⟨K,Γ,G⟩ noX b_Lnext {nx:=fun _ M=>Q .non M,rt:=Q} (start0 Pv ds) M:=by
 rintro ds M Q Z ⟨r,rfl,⟨l,hl⟩,q⟩
 have hlt:=Q7 hl
 simp only[b_Lnext,Pv]
 walk_at "ev"
 refine⟨Z1 (by decide),?_⟩
 try walk_at "ev"
 refine Qq (l:=l) (Zb (Z3 hl)) (Zy _ _ []) ?_
 cases hT:l.isEmpty with
 | true=>
  rw[if_pos rfl]
  exact q 0 _ ((Ke.refl ⟨l,hl⟩).app _)
 | false=>
  rw[if_neg (by decide)]
  have hne:l≠[]:=by rintro rfl;cases hT
  obtain⟨l',x,rfl⟩:∃l' x,l=l'++[x]:=⟨l.dropLast,l.getLast hne,(List.dropLast_concat_getLast hne).symm⟩
  rw[Xw] at hl
  simp only[Jm]
  walk_at "ev"
  refine⟨Y8 (Zb (Z3 hl)),_,.int (x:Nat),Zs hl,by simp,?_⟩
  rw[List.dropLast_concat]
  exact q x _ (Ke.take hlt _)
theorem Zb0{Γ G}(g12:Γ[20]?=some Yx):∀ds M Q Z,Xb ds M Q Z→tss ⟨K,Γ,G⟩ noX b_Lgreat {nx:=fun _ M=>Q .non M,rt:=Q} (start0 Sa ds) M:=by
 rintro ds M Q Z ⟨r,rfl,hd,q⟩
 simp only[b_Lgreat,Sa]
 walk_at "ev"
 try simp only[g12]
 refine⟨r,rfl,hd,fun x M1 k1=>?_⟩
 walk_at "ev"
 refine⟨mulR (by decide) (by decide),?_⟩
 try walk_at "ev"
 try simp only[g12]
 refine⟨r,rfl,k1.dr,fun y M2 k2=>?_⟩
 walk_at "ev"
 refine⟨⟨by decide,by decide,by decide⟩,mulL (by decide) (by decide),by decide,⟨by decide,by decide,by decide⟩,q _ _ ?_ (k1.trans k2)⟩
 have e:(10:Int) ^ Int.toNat 18=1000000000000000000:=rfl
 rw[e,qm (by decide)]
 have h1:=Int.emod_nonneg ((x:Int) * 2147483629+(y:Int)) (show(2 * 1000000000000000000+1:Int)≠0 by decide)
 have h2:=Int.emod_lt_of_pos ((x:Int) * 2147483629+(y:Int)) (show(0:Int)<2 * 1000000000000000000+1 by decide)
 generalize ((x:Int) * 2147483629+(y:Int)) % (2 * 1000000000000000000+1)=v at h1 h2
 unfold Bits
 omega
end
theorem Z28{α β:Type}(f:α→β)(xs:List α)(lo hi:Option Int):U.cutD (xs.map f) lo hi=(U.cutD xs lo hi).map f:=by
 unfold U.cutD
 rw[List.length_map,List.map_take,List.map_drop]
theorem Zq9{α:Type}{xs:List α}(h:0<xs.length){m:Int}(hm:1≤m):0< (U.cutD xs none (some m)).length:=by
 unfold U.cutD
 have e1:HT.sIx xs.length 0 none=0:=rfl
 have e2:HT.sIx xs.length xs.length (some m)=min m.toNat xs.length:=by
  show(if m<0 then(m+(xs.length:Int)).toNat else min m.toNat xs.length)=_
  rw[if_neg (by omega)]
  try walk_at "ev"
 rw[e1,e2,List.length_take,List.drop_zero]
 omega
theorem Kp.set{M M':Z0}{r:Nat}(h:Kp M M')(hr:M.length≤r)(c:Cell):Kp M (M'.set r c):=by
 obtain⟨L,rfl⟩:=h
 exact⟨L.set (r - M.length) c,by rw[List.set_append_right _ _ hr]⟩
def Yr:DSp:=fun ds M Q _=>∃(a:Nat) (ns:List Int),ds=[.ref a]∧Za M a=some (ns.map .int)∧ns.length≤63∧∀M' r,Dr M' r→Kp M M'→M.length≤r→Q (.ref r) M'
section
variable{K:PySem.W.Frag}
theorem Y15{α:Type}(xs:List α)(lo hi:Option Int):(U.cutD xs lo hi).length≤xs.length:=by
 unfold U.cutD
 rw[List.length_take,List.length_drop]
 omega
theorem Zf1{Γ G}:∀ds M Q Z,Yr ds M Q Z→tss ⟨K,Γ,G⟩ noX b_Ldraws {nx:=fun _ M=>Q .non M,rt:=Q} (start0 Sf ds) M:=by
 rintro ds M Q Z ⟨a,ns,rfl,ha,hl,q⟩
 simp only[b_Ldraws,Sf]
 walk_at "ev"
 refine⟨_,ha,_,Zy M _ [],Z1 (by decide),_,_,Zs (Zu _ _ []),Zu _ _ [],?_,Yu (Zb (Zb (Zb (Zb ha)))) ?_⟩
 ·have:=Y15 (ns.map D.int) none (some 63)
  rw[List.length_map] at this
  exact Z1 (by simp;omega)
 walk_at "ev"
 refine⟨_,Zy _ _ [],?_⟩
 try walk_at "ev"
 obtain⟨mx,hmx,emx⟩:∃m:Int,1≤m∧(if (if (63:Int)< ((ns.map D.int).length:Int) then(63:Int) else((ns.map D.int).length:Int)) >1 then(if (63:Int)< ((ns.map D.int).length:Int) then(63:Int) else((ns.map D.int).length:Int)) else 1)=m:=⟨_,by split<;>omega,rfl⟩
 rw[emx]
 obtain⟨ys,hys,hy0⟩:∃ys:List Int,U.cutD (U.cutD (ns.map D.int) none (some 63)++[.int 0]) none (some mx)=ys.map .int∧0<ys.length:=by
  refine⟨U.cutD (U.cutD ns none (some 63)++[0]) none (some mx),?_,Zq9 (by simp) hmx⟩
  try walk_at "ev"
  rw[←Z28,List.map_append,←Z28]
  rfl
 rw[hys]
 generalize hMd:M++[Cell.lst (U.cutD (ns.map D.int) none (some 63))]++[Cell.lst (U.cutD (ns.map D.int) none (some 63))]++[Cell.lst [D.int 0]]++[Cell.lst (U.cutD (ns.map D.int) none (some 63)++[D.int 0])]=Md
 have kd:Kp M Md:=by rw[←hMd];exact(((Kp.new _ _).app _).app _).app _
 clear hMd
 have k5:=kd.app [Cell.lst (ys.map D.int)]
 have w5:=Zu Md (ys.map D.int) []
 have he:M.length≤Md.length:=by obtain⟨N,rfl⟩:=kd;rw[List.length_append];omega
 generalize Md++[Cell.lst (ys.map D.int)]=M5 at k5 w5
 generalize Md.length=e at w5 he
 obtain⟨y0,hy⟩:∃y,ys[0]?=some y:=⟨_,List.getElem?_eq_getElem hy0⟩
 have ihy:(ys.map D.int)[0]?=some (.int y0):=by rw[List.getElem?_map,hy];rfl
 try walk_at "ev"
 refine ix_l (k:=0) (Z3 w5) ihy ?_
 try walk_at "ev"
 generalize decide (qmod y0 2=1)=b
 refine ix_l (k:=0) (Z3 w5) ihy ?_
 try walk_at "ev"
 refine⟨Ee (by decide) (by decide),.inl ⟨_,0,0,rfl,w5,by unfold ixN;rw[if_pos (by omega),if_pos (by rw[List.length_map];omega)];rfl,?_⟩⟩
 try walk_at "ev"
 have w6:Zc (M5.set e (.lst ((ys.map D.int).set 0 (.int (qdiv y0 2))))) e=some ((ys.set 0 (qdiv y0 2)).map .int):=by rw[Jp w5,List.map_set]
 have k6:=k5.set he (.lst ((ys.map D.int).set 0 (.int (qdiv y0 2))))
 have l6:0< (ys.set 0 (qdiv y0 2)).length:=by rw[List.length_set];exact hy0
 generalize ys.set 0 (qdiv y0 2)=zs at w6 l6
 generalize M5.set e (.lst ((ys.map D.int).set 0 (.int (qdiv y0 2))))=M6 at w6 k6
 have le6:=Q7 w6
 have lm6:M.length≤M6.length:=by obtain⟨N,rfl⟩:=k6;rw[List.length_append];omega
 try walk_at "ev"
 refine⟨_,Z3 w6,Z1 (by decide),by decide,by decide,?_⟩
 try walk_at "ev"
 have e900:(900:Int).toNat=900:=rfl
 rw[e900]
 have wf:=Zs (N:=[Cell.lst []]) (Zu M6 (zs.map D.int) [])
 have wg:=Zu (M6++[Cell.lst (zs.map D.int)]) [] []
 have we:=Zs (N:=[Cell.lst []]) (Zs (N:=[Cell.lst (zs.map D.int)]) w6)
 have k8:=(k6.app [Cell.lst (zs.map D.int)]).app [Cell.lst []]
 generalize M6++[Cell.lst (zs.map D.int)]++[Cell.lst []]=M8 at wf wg we k8
 have hgl:(M6++[Cell.lst (zs.map D.int)]:Z0).length=M6.length+1:=by simp
 rw[hgl] at wg ⊢
 generalize hf:M6.length=f at wf wg le6 lm6
 clear hgl hf
 have nef:e≠f:=by omega
 have neg:e≠f+1:=by omega
 have nfg:f≠f+1:=by omega
 refine Sn (fun i σ M'=>∃(us:List Int) (fo:List Nat) (d5 d6 d7:Option D),σ=[some (.ref a),some (.ref e),some (.bl b),some (.ref f),some (.ref (f+1)),d5,d6,d7]∧Kp M M'∧Zc M' e=some (zs.map .int)∧Zc M' f=some (us.map .int)∧us.length=zs.length∧Zc M' (f+1)=some (natD fo)∧fo.length=i) ⟨zs,[],none,none,none,rfl,k8,we,wf,rfl,wg,rfl⟩ ?_ ?_
 ·rintro i σ M' C hi ⟨us,fo,d5,d6,d7,rfl,kp,we,wf,hul,wg,hfo⟩ hC
  have fin:∀(M2:Z0) (us:List Int) (nn:Nat) (d5 d6:Option D) bk,Kp M M2→Zc M2 e=some (zs.map .int)→Zc M2 f=some (us.map .int)→us.length=zs.length→Zc M2 (f+1)=some (natD fo)→tss ⟨K,Γ,G⟩ noX Vf {nx:=C,rt:=Q,bk:=bk,ct:=C} [some (.ref a),some (.ref e),some (.bl b),some (.ref f),some (.ref (f+1)),d5,d6,some (.int nn)] M2:=by
   intro M2 us nn d5 d6 bk kp we wf hul wg
   simp only[Vf]
   walk_at "ev"
   refine⟨Y8 (Z3 wg),_,wg,by rw[Ye];exact Z6 (by omega),?_⟩
   try walk_at "ev"
   rw[←Xw]
   refine hC _ _ ⟨us,fo++[nn],_,_,_,rfl,kp.set (by omega) _,by rw[Z25 (Ne.symm neg)];exact we,by rw[Z25 (Ne.symm nfg)];exact wf,hul,Jp wg,by rw[List.length_append,hfo];rfl⟩
  simp only[Qj,Int.zero_add]
  walk_at "ev"
  refine Yu (Z3 we) ?_
  try walk_at "ev"
  rw[List.length_map]
  walk_at "ev"
  refine⟨by omega,?_⟩
  try walk_at "ev"
  rw[qm (show(0:Int)<zs.length by omega)]
  have m1:=Int.emod_nonneg (i:Int) (show(zs.length:Int)≠0 by omega)
  have m2:=Int.emod_lt_of_pos (i:Int) (show(0:Int)<zs.length by omega)
  obtain⟨p,hp,ep⟩:∃p:Nat,p<zs.length∧(i:Int) % zs.length=p:=⟨((i:Int) % zs.length).toNat,by omega,by omega⟩
  rw[ep]
  obtain⟨u,hu⟩:∃u,us[p]?=some u:=⟨_,List.getElem?_eq_getElem (by omega)⟩
  obtain⟨v,hv⟩:∃v,zs[p]?=some v:=⟨_,List.getElem?_eq_getElem hp⟩
  have ihu:(us.map D.int)[p]?=some (.int u):=by rw[List.getElem?_map,hu];rfl
  have ihv:(zs.map D.int)[p]?=some (.int v):=by rw[List.getElem?_map,hv];rfl
  refine ix_l (Z3 wf) ihu ?_
  try walk_at "ev"
  rw[qm (show(0:Int)<2147483629 by decide)]
  try walk_at "ev"
  have nat:∀(c j:Int),0<j→∃n:Nat,c % j=(n:Int)∧(n:Int)<j:=fun c j hj=>⟨(c % j).toNat,by have:=Int.emod_nonneg c (show j≠0 by omega);omega,by have:=Int.emod_nonneg c (show j≠0 by omega);have:=Int.emod_lt_of_pos c hj;omega⟩
  obtain⟨n0,e0,_⟩:=nat u 2147483629 (by decide)
  rw[e0]
  have els:∀(M2:Z0) (bk:DEnv→Z0→Prop),Kp M M2→Zc M2 e=some (zs.map .int)→Zc M2 f=some (us.map .int)→Zc M2 (f+1)=some (natD fo)→
    ixD M2 (D.ref e) (D.int p) fun d=>U.opD Op.mod d (D.int 2147483629) M2 fun x M1=>U.opD Op.mul x (D.int 48271) M1 fun x M1=>IntMulOk 7919 i∧IntMulOk (7919 * i) i∧
     U.opD Op.add x (D.int (7919 * i * i)) M1 fun x M1=>U.opD Op.add x (D.int 104729) M1 fun x M1=>U.opD Op.mod x (D.int 2147483647) M1 fun d M1=>U.opD Op.mul d d M1 fun x M1=>U.opD Op.mod x (D.int 2147483629) M1 fun d M1=>
     U.opD Op.mul d (D.int 69621) M1 fun x M1=>IntMulOk 3571 i∧U.opD Op.add x (D.int (3571 * i)) M1 fun x M1=>U.opD Op.mod x (D.int 2147483563) M1 fun x M1=>U.opD Op.mul x d M1 fun x M1=>U.opD Op.mod x (D.int 2147483629) M1 fun d M1=>
     tss ⟨K,Γ,G⟩ noX Vf {nx:=C,rt:=Q,bk:=bk,ct:=C} [some (.ref a),some (.ref e),some (.bl b),some (.ref f),some (.ref (f+1)),some (.int i),some (.int p),some d] M1:=by
   intro M2 bk kp we wf wg
   refine ix_l (Z3 we) ihv ?_
   walk_at "ev"
   rw[qm (show(0:Int)<2147483647 by decide)]
   refine⟨mulR (by decide) (by decide),mulL (by decide) (by decide),mulR (by omega) (by omega),?_⟩
   try walk_at "ev"
   obtain⟨n1,e1,b1⟩:=nat (qmod v 2147483629 * 48271+7919 * (i:Int) * (i:Int)+104729) 2147483647 (by decide)
   rw[e1]
   refine⟨mulR (by omega) (by omega),?_⟩
   try walk_at "ev"
   rw[qm (show(0:Int)<2147483629 by decide)]
   obtain⟨n2,e2,b2⟩:=nat ((n1:Int) * (n1:Int)) 2147483629 (by decide)
   rw[e2]
   refine⟨mulR (by decide) (by decide),mulL (by decide) (by decide),mulR (by omega) (by omega),?_⟩
   try walk_at "ev"
   rw[qm (show(0:Int)<2147483629 by decide)]
   obtain⟨n3,e3,b3⟩:=nat (qmod ((n2:Int) * 69621+3571 * (i:Int)) 2147483563 * (n2:Int)) 2147483629 (by decide)
   rw[e3]
   exact fin _ us n3 _ _ _ kp we wf hul wg
  cases b with
  | false=>
   try walk_at "ev"
   exact els M' _ kp we wf wg
  | true=>
   try walk_at "ev"
   refine ix_l (Z3 wf) ihu ?_
   try walk_at "ev"
   refine⟨Z1 (by decide),.inl ⟨_,Zy M' _ [],rfl,rfl,?_⟩⟩
   try walk_at "ev"
   generalize inD (D.int u) [D.int 0,D.int (-1)]=cc
   show(if cc=false then _ else _)
   split
   ·refine ix_l (Zb (Z3 wf)) ihu ?_
    try walk_at "ev"
    refine⟨Ee (by decide) (by decide),.inl ⟨_,p,p,rfl,Zs wf,by unfold ixN;rw[if_pos (by omega),if_pos (by rw[List.length_map];omega)];rfl,?_⟩⟩
    try walk_at "ev"
    refine fin _ (us.set p (qdiv u 2147483629)) n0 _ _ _ ((kp.app _).set (by omega) _) (by rw[Z25 (Ne.symm nef)];exact Zs we) (by rw[Jp (Zs wf),List.map_set]) (by rw[List.length_set];exact hul) (by rw[Z25 nfg];exact Zs wg)
   ·exact els _ _ (kp.app _) (Zs we) (Zs wf) (Zs wg)
 ·rintro σ M' ⟨us,fo,d5,d6,d7,rfl,kp,we,wf,hul,wg,hfo⟩
  simp only[Qn]
  walk_at "ev"
  refine⟨natD fo,Z3 wg,?_⟩
  try walk_at "ev"
  refine q _ _ ⟨fo.reverse,?_⟩ (kp.app _) ?_
  ·rw[show natD fo.reverse=(natD fo).reverse by unfold natD;rw[List.map_reverse]]
   exact Zu _ _ []
  ·obtain⟨N,rfl⟩:=kp;rw[List.length_append];omega
end
def Nms(M:Z0)(g:Nat):Prop:=∃l:List Str,l.length=4∧(∀x∈l,PyData.canLay0 (.str x)=true)∧Za M g=some (l.map D.str)
theorem Nms.ke{r g:Nat}{M M':Z0}(h:Nms M g)(k:Ke r M M')(hg:g≠r):Nms M' g:=by obtain⟨l,a,b,c⟩:=h;exact⟨l,a,b,k.L hg c⟩
theorem Nms.pick{M:Z0}{g:Nat}{i:Int}{F:D→Prop}(h:Nms M g)(q:∀x:Str,PyData.canLay0 (.str x)=true→F (.str x)):ixD M (.ref g) (.int (qmod i 4)) F:=by
 obtain⟨l,a,b,c⟩:=h
 refine Si c (by rw[List.length_map,a];rfl) (by decide) fun d hd=>?_
 try walk_at "ev"
 obtain⟨x,hx,rfl⟩:=List.mem_map.mp hd
 exact q x (b x hx)
def Yl:DSp:=fun ds M Q _=>∃(r g:Nat),ds=[.ref r,.ref g]∧Dr M r∧g≠r∧Nms M g∧∀(o:Opd) M',OB o→Ke r M M'→Q o.d M'
def Sq:DSp:=fun ds M Q _=>∃(r k nu na:Nat) (nums:List Nat),ds=[.ref r,.int k,.ref nu,.ref na]∧Dr M r∧nu≠r∧na≠r∧Za M nu=some (natD nums)∧k<nums.length∧nums.length≤1000∧Nms M na∧
 ∀(w:Rw) M',(∀x,nums[k]?=some x→w.num=x)→(∀g,w.goal=some g→g∈nums)→RB w→Ke r M M'→Q w.d M'
def Vk:DSp:=fun ds M Q _=>∃(r na:Nat),ds=[.ref r,.ref na,.int 39]∧Dr M r∧na≠r∧Nms M na∧
 ∀(rows:List Rw) M' z,RwOk rows→rows.length≤40→(∀w∈rows,RB w)→Ke r M M'→Zc M' z=some (rows.map Rw.d)→M.length≤z→Q (.ref z) M'
theorem Zs0{α:Type}{xs:List α}{c:Int}{n:Nat}(hn:xs.length=n)(h:0<n):∃(k:Nat) (d:α),c % (n:Int)=(k:Int)∧xs[k]?=some d:=by
 have h1:=Int.emod_nonneg c (show(n:Int)≠0 by omega)
 have h2:=Int.emod_lt_of_pos c (show(0:Int)<n by omega)
 exact⟨(c % (n:Int)).toNat,_,by omega,List.getElem?_eq_getElem (by omega)⟩
theorem Jq{l:List Nat}(h:l.Pairwise (· < ·)):l.Nodup:=h.imp fun h=>Nat.ne_of_lt h
theorem Sx{M:Z0}{a:Nat}{l:List Nat}{i m:Int}{F:D→Prop}(h:Za M a=some (natD l))(h0:0<l.length)(hm:m=l.length)(q:∀x∈l,F (.int (x:Nat))):ixD M (.ref a) (.int (qmod i m)) F:=by
 refine Si h (by rw[Ye];exact hm) (by omega) fun d hd=>?_
 try walk_at "ev"
 unfold natD at hd
 obtain⟨x,hx,rfl⟩:=List.mem_map.mp hd
 exact q x hx
section
variable{K:PySem.W.Frag}
theorem Bg{Γ G}(g12:Γ[20]?=some Yx)(g14:Γ[22]?=some Xb):∀ds M Q Z,Yl ds M Q Z→tss ⟨K,Γ,G⟩ noX b_Loperand {nx:=fun _ M=>Q .non M,rt:=Q} (start0 Vb ds) M:=by
 rintro ds M Q Z ⟨r,g,rfl,hd,hg,nms,q⟩
 simp only[b_Loperand,Vb]
 try walk_at "ev"
 try simp only[g12,g14]
 refine⟨r,rfl,hd,fun x M1 k1=>?_⟩
 try walk_at "ev"
 split
 ·refine⟨r,rfl,k1.dr,fun v M2 hv k2=>?_⟩
  try walk_at "ev"
  exact q (.no v) _ hv (k1.trans k2)
 ·simp only[Tw]
  try walk_at "ev"
  try simp only[g12,g14]
  split
  ·refine⟨r,rfl,k1.dr,fun v M2 k2=>?_⟩
   try walk_at "ev"
   refine q (.no _) _ ?_ (k1.trans k2)
   show Bits 64 (qmod (v:Int) 9 - 3)
   rw[qm (by decide)]
   have h1:=Int.emod_nonneg (v:Int) (show(9:Int)≠0 by decide)
   have h2:=Int.emod_lt_of_pos (v:Int) (show(0:Int)<9 by decide)
   generalize (v:Int) % 9=u at h1 h2
   unfold Bits
   omega
  ·simp only[Tu]
   try walk_at "ev"
   try simp only[g12,g14]
   refine⟨r,rfl,k1.dr,fun v M2 k2=>?_⟩
   try walk_at "ev"
   refine(nms.ke (k1.trans k2) hg).pick fun y hy=>?_
   try walk_at "ev"
   exact q (.nm y) _ hy (k1.trans k2)
theorem Zy6{Γ G}(g12:Γ[20]?=some Yx)(g15:Γ[23]?=some Yl):∀ds M Q Z,Sq ds M Q Z→tss ⟨K,Γ,G⟩ noX b_Lrow {nx:=fun _ M=>Q .non M,rt:=Q} (start0 Fq ds) M:=by
 rintro ds M Q Z ⟨r,k,nu,na,nums,rfl,hd,hnr,har,hnu,hk,h1000,nms,q⟩
 obtain⟨y,hy⟩:∃x,nums[k]?=some x:=⟨_,List.getElem?_eq_getElem hk⟩
 have hye:∀z,nums[k]?=some z→y=z:=fun z hz=>by rw[hy] at hz;cases hz;rfl
 simp only[b_Lrow,Fq]
 try walk_at "ev"
 try simp only[g12]
 refine⟨r,rfl,hd,fun x M1 k1=>?_⟩
 try walk_at "ev"
 have nu1:=k1.L hnr hnu
 try walk_at "ev"
 split
 ·exact ix_l nu1 (Xf hy) ⟨Z1 (by decide),q (.fin y) _ hye (fun g h=>by cases h) ⟨trivial,trivial⟩ k1⟩
 ·simp only[E4]
  try walk_at "ev"
  try simp only[g12]
  split
  ·refine ix_l nu1 (Xf hy) ⟨r,rfl,k1.dr,fun x2 M2 k2=>?_⟩
   try walk_at "ev"
   refine Yu (k2.L hnr nu1) ?_
   try walk_at "ev"
   rw[Ye]
   try walk_at "ev"
   refine⟨by omega,Sx (k2.L hnr nu1) (by omega) rfl fun t ht=>⟨Z1 (by decide),?_⟩⟩
   try walk_at "ev"
   exact q (.jump y t) _ hye (fun g h=>by cases h;exact ht) ⟨trivial,trivial⟩ (k1.trans k2)
  ·simp only[Gy]
   try walk_at "ev"
   try simp only[g12,g15]
   refine⟨r,na,rfl,k1.dr,har,nms.ke k1 har,fun o1 M2 ok1 k2=>?_⟩
   try walk_at "ev"
   have K2:=k1.trans k2
   try walk_at "ev"
   try simp only[g12,g15]
   refine⟨r,na,rfl,K2.dr,har,nms.ke K2 har,fun o2 M3 ok2 k3=>?_⟩
   try walk_at "ev"
   have K3:=K2.trans k3
   have hne:M3.length≠r:=by have:=K3.dr.lt;omega
   try walk_at "ev"
   try simp only[g12,g15]
   split
   ·refine⟨Z1 (by decide),r,rfl,K3.dr.app _,fun x4 M4 k4=>?_⟩
    try walk_at "ev"
    have K4:=(K3.app _).trans k4
    try walk_at "ev"
    refine Si (k4.L hne (Zy M3 _ [])) rfl (by decide) fun d4 h4=>?_
    try walk_at "ev"
    obtain⟨sg,hsx,rfl⟩:=List.mem_map (f:=D.str) (l:=["+","-","/","rest","&","^"]) |>.mp h4
    try walk_at "ev"
    try simp only[g12,g15]
    refine ix_l (K4.L hnr hnu) (Xf hy) ⟨r,rfl,K4.dr,fun x5 M5 k5=>?_⟩
    try walk_at "ev"
    refine(nms.ke (K4.trans k5) har).pick fun x6 h6=>⟨Z1 (by decide),?_⟩
    try walk_at "ev"
    exact q (.sum y x6 o1 sg o2) _ hye (fun g h=>by cases h) ⟨⟨ok1,ok2⟩,hsx,h6⟩ (K4.trans k5)
   ·simp only[Gu]
    try walk_at "ev"
    try simp only[g12,g15]
    refine⟨Z1 (by decide),r,rfl,K3.dr.app _,fun x4 M4 k4=>?_⟩
    try walk_at "ev"
    have K4:=(K3.app _).trans k4
    try walk_at "ev"
    refine Si (k4.L hne (Zy M3 _ [])) rfl (by decide) fun d4 h4=>?_
    try walk_at "ev"
    obtain⟨sg,hsg,rfl⟩:=List.mem_map (f:=D.str) (l:=["<","="]) |>.mp h4
    have hsg:sg="<"∨sg="=":=by simpa using hsg
    try walk_at "ev"
    try simp only[g12,g15]
    refine ix_l (K4.L hnr hnu) (Xf hy) ⟨r,rfl,K4.dr,fun x5 M5 k5=>?_⟩
    try walk_at "ev"
    have K5:=K4.trans k5
    try walk_at "ev"
    refine Yu (K5.L hnr hnu) ?_
    try walk_at "ev"
    rw[Ye]
    try walk_at "ev"
    refine⟨by omega,Sx (K5.L hnr hnu) (by omega) rfl fun t ht=>⟨Z1 (by decide),?_⟩⟩
    try walk_at "ev"
    exact q (.test y o1 sg o2 t) _ hye (fun g h=>by cases h;exact ht) ⟨⟨ok1,ok2,hsg⟩,trivial⟩ K5
end
section
variable{K:PySem.W.Frag}
theorem Zs5{Γ G}(g12:Γ[20]?=some Yx)(g16:Γ[24]?=some Sq):∀ds M Q Z,Vk ds M Q Z→tss ⟨K,Γ,G⟩ noX b_Lrows {nx:=fun _ M=>Q .non M,rt:=Q} (start0 Py ds) M:=by
 rintro ds M Q Z ⟨r,na,rfl,hd,har,nms,q⟩
 simp only[b_Lrows,Py]
 try walk_at "ev"
 try simp only[g12]
 refine⟨r,rfl,hd,fun x M1 k1=>?_⟩
 try walk_at "ev"
 rw[show((39:Int)+1)=40 from rfl,qm (show(0:Int)<40 by decide)]
 have r1:=Int.emod_nonneg (x:Int) (show(40:Int)≠0 by decide)
 have r2:=Int.emod_lt_of_pos (x:Int) (show(0:Int)<40 by decide)
 obtain⟨many,hm1,e⟩:∃many:Nat,many≤39∧(x:Int) % 40=many:=⟨((x:Int) % 40).toNat,by omega,by omega⟩
 rw[e]
 have hne1:M1.length≠r:=by have:=k1.dr.lt;omega
 refine⟨by decide,?_⟩
 try walk_at "ev"
 try simp only[g12]
 refine⟨Z1 (by decide),r,rfl,k1.dr.app _,fun x2 M2 k2=>?_⟩
 try walk_at "ev"
 have K2:=(k1.app _).trans k2
 try walk_at "ev"
 obtain⟨j,m,ej,hm⟩:=Zs0 (xs:=([1,10,97]:List Nat)) (c:=(x2:Int)) (n:=3) rfl (by decide)
 have hm0:0<m:=by
  have:=List.mem_of_getElem? hm
  simp at this
  omega
 rw[qm (show(0:Int)<3 by decide),show(x2:Int) % 3=(j:Int) from ej]
 refine ix_l (xs:=natD [1,10,97]) (k2.L hne1 (Zy M1 _ [])) (Xf hm) ?_
 try walk_at "ev"
 try simp only[g12]
 refine⟨r,rfl,K2.dr,fun x3 M3 k3=>?_⟩
 try walk_at "ev"
 have K3:=K2.trans k3
 have hne3:M3.length≠r:=by have:=K3.dr.lt;omega
 try walk_at "ev"
 rw[qm (show(0:Int)<300 by decide)]
 obtain⟨b0,eb⟩:∃b0:Nat,(x3:Int) % 300=b0:=⟨((x3:Int) % 300).toNat,by have:=Int.emod_nonneg (x3:Int) (show(300:Int)≠0 by decide);omega⟩
 rw[eb]
 refine⟨Z1 (by decide),by omega,by omega,?_⟩
 try walk_at "ev"
 rw[Int.toNat_natCast]
 refine Sn (fun i σ M'=>∃(nums:List Nat) (d6 d7:Option D),σ=[some (.ref r),some (.ref na),some (.int 39),some (.int many),some (.int m),some (.ref M3.length),d6,d7]∧Ke r M3 M'∧Zc M' M3.length=some (natD nums)∧nums.length=i+1∧nums.Pairwise (· < ·))
  ⟨[b0],none,none,rfl,(Ke.refl K3.dr).app _,Zu _ _ [],rfl,List.pairwise_singleton _ _⟩ ?_ ?_
 ·rintro i σ M' C hi ⟨nums,d6,d7,rfl,ke,hw,hlen,hpw⟩ hC
  obtain⟨y,hy⟩:∃y,nums[i]?=some y:=⟨_,List.getElem?_eq_getElem (by omega)⟩
  simp only[J2,Int.zero_add]
  try walk_at "ev"
  try simp only[g12]
  refine⟨Y8 (Z3 hw),ix_l (Z3 hw) (Xf hy) ⟨r,rfl,ke.dr,fun x4 M4 k4=>?_⟩⟩
  try walk_at "ev"
  have hw4:=k4.W hne3 hw
  try walk_at "ev"
  refine⟨by omega,_,hw4,by rw[Ye];exact Z6 (by omega),?_⟩
  try walk_at "ev"
  rw[qm (show(0:Int)<m by omega)]
  have nn:=Int.emod_nonneg (x4:Int) (show(m:Int)≠0 by omega)
  generalize (x4:Int) % (m:Int)=v at nn
  rw[show((y:Int)+1+v)=((y+1+v.toNat:Nat):Int) by omega,←Xw]
  refine hC _ _ ⟨nums++[y+1+v.toNat],_,_,rfl,(ke.trans k4).set (Nat.le_refl _) hne3 _,Jp hw4,by rw[List.length_append,hlen];rfl,List.pairwise_append.mpr ⟨hpw,List.pairwise_singleton _ _,fun x hx z hz=>?_⟩⟩
  try walk_at "ev"
  rw[List.mem_singleton] at hz
  subst hz
  obtain⟨p,hp,rfl⟩:=List.mem_iff_getElem.mp hx
  have hyi:nums[i]'(by omega)=y:=by rw[List.getElem?_eq_getElem (by omega)] at hy;exact Option.some.inj hy
  by_cases e:p=i
  ·subst e;rw[hyi];omega
  ·have:=List.pairwise_iff_getElem.mp hpw p i hp (by omega) (by omega)
   omega
 ·rintro σ M4 ⟨nums,d6,d7,rfl,ke,hw,hlen,hpw⟩
  have K4:=K3.trans ke
  have hne4:M4.length≠r:=by have:=ke.dr.lt;omega
  have hlt4:=Q7 hw
  simp only[N2]
  try walk_at "ev"
  refine⟨by omega,by omega,?_⟩
  try walk_at "ev"
  rw[Int.toNat_natCast]
  simp only[capD,List.map_cons,List.map_nil,Option.bind_none,Option.bind_some,List.getElem?_cons_zero,List.getElem?_cons_succ,Option.join_some]
  refine Wi (fun i σ M'=>∃(d1:Option D) (rows:List Rw),σ=[d1,some (.ref r),some (.ref M3.length),some (.ref na)]∧Ke r M4 M'∧Zc M' M4.length=some (rows.map Rw.d)∧rows.map Rw.num=nums.take i∧(∀w∈rows,∀g,w.goal=some g→g∈nums)∧∀w∈rows,RB w) ⟨none,[],rfl,(Ke.refl ke.dr).app _,Zu _ _ [],rfl,by simp,by simp⟩ (fun _ _ _ _ _=>trivial) ?_ ?_
  ·rintro i dx σ M' C hx ⟨d1,rows,rfl,k5,hw5,hn,hg,hok⟩ hC
   have hi:i<many:=by
    have:=(List.getElem?_eq_some_iff.mp hx).1
    rwa[W8] at this
   rw[Og hi] at hx
   cases hx
   simp only[Int.zero_add]
   try walk_at "ev"
   try simp only[g16]
   refine⟨r,i,M3.length,na,nums,rfl,k5.dr,hne3,har,k5.L hne3 (Z3 hw),by omega,by omega,nms.ke (K4.trans k5) har,fun w M6 e1 e2 e3 k6=>?_⟩
   try walk_at "ev"
   have hlr:rows.length=i:=by have:=congrArg List.length hn;rw[List.length_map,List.length_take] at this;omega
   obtain⟨y,hy⟩:∃y,nums[i]?=some y:=⟨_,List.getElem?_eq_getElem (by omega)⟩
   have hw6:=k6.W hne4 hw5
   refine⟨_,hw6,by rw[List.length_map];exact Z6 (by omega),?_⟩
   try walk_at "ev"
   refine hC _ _ ⟨_,rows++[w],rfl,(k5.trans k6).set (Nat.le_refl _) hne4 _,by rw[Jp hw6,List.map_append];rfl,by rw[List.map_append,hn,X7 hy];show _++[w.num]=_;rw[e1 y hy],fun w' hw'=>?_,fun w' hw'=>?_⟩
   ·rcases List.mem_append.mp hw' with h | h
    ·exact hg w' h
    ·rw[List.mem_singleton] at h;subst h;exact e2
   ·rcases List.mem_append.mp hw' with h | h
    ·exact hok w' h
    ·rw[List.mem_singleton] at h;subst h;exact e3
  ·rintro σ M5 ⟨d1,rows,rfl,k5,hw5,hn,hg,hok⟩
   rw[W8] at hn
   have K5:=K4.trans k5
   have hne:nums≠[]:=by rintro rfl;simp at hlen
   obtain⟨nums',z,rfl⟩:∃nums' z,nums=nums'++[z]:=⟨nums.dropLast,nums.getLast hne,(List.dropLast_concat_getLast hne).symm⟩
   rw[List.length_append,List.length_singleton] at hlen
   have hl':nums'.length=many:=by omega
   rw[List.take_append_of_le_length (by omega),←hl',List.take_length] at hn
   have hlr:rows.length=many:=by have:=congrArg List.length hn;rw[List.length_map] at this;omega
   have lastN:atI (natD (nums'++[z])) (-1)=some (.int (z:Nat)):=by rw[Xw];exact Oa _ _
   have nu5:=k5.L hne3 (Z3 hw)
   try walk_at "ev"
   try simp only[g12]
   refine⟨r,rfl,k5.dr,fun x6 M6 k6=>?_⟩
   try walk_at "ev"
   have K6:=K5.trans k6
   have hw6:=k6.W hne4 hw5
   have nu6:=k6.L hne3 nu5
   have fin:∀(w:Rw) M7,w.num=z→w.goes=false→(∀g,w.goal=some g→g∈nums'++[z])→RB w→Ke r M5 M7→∀σ d7,σ=[some (.ref r),some (.ref na),some (.int 39),some (.int many),some (.int m),some (.ref M3.length),d7,some (.ref M4.length)]→∃xs,Zc M7 M4.length=some xs∧xs.length<sizeLine∧tss ⟨K,Γ,G⟩ noX Rz {nx:=fun _ M=>Q .non M,rt:=Q} σ (M7.set M4.length (.lst (xs++[w.d]))):=by
    rintro w M7 e1 e2 e3 e4 k7 σ d7 rfl
    have hw7:=k7.W hne4 hw5
    refine⟨_,hw7,by rw[List.length_map];exact Z6 (by omega),?_⟩
    try walk_at "ev"
    simp only[Rz]
    try walk_at "ev"
    have en:(rows++[w]).map Rw.num=nums'++[z]:=by rw[List.map_append,hn];show _++[w.num]=_;rw[e1]
    have l4:=K4.len
    refine q (rows++[w]) _ _ ⟨by simp,by rw[List.length_append,List.length_singleton];omega,by rw[en];exact Jq hpw,fun r' hr' g hg'=>?_,fun p r' hp hgo=>?_⟩ (by rw[List.length_append,List.length_singleton];omega) (fun r' hr'=>?_) (K4.trans ((k5.trans k7).set (Nat.le_refl _) hne4 _)) (by rw[Jp hw7,List.map_append];rfl) l4
    ·rw[en]
     rcases List.mem_append.mp hr' with h | h
     ·exact hg r' h g hg'
     ·rw[List.mem_singleton] at h;subst h;exact e3 g hg'
    ·rw[List.length_append,List.length_singleton]
     by_cases hpl:p<rows.length
     ·omega
     ·rw[List.getElem?_append_right (by omega)] at hp
      have:=List.mem_of_getElem? hp
      rw[List.mem_singleton] at this
      subst this
      rw[e2] at hgo
      cases hgo
    ·rcases List.mem_append.mp hr' with h | h
     ·exact hok r' h
     ·rw[List.mem_singleton] at h;subst h;exact e4
   try walk_at "ev"
   try simp only[g12]
   split
   ·refine⟨Y8 (Z3 hw6),.inl ⟨_,-1,_,rfl,nu6,lastN,r,rfl,k6.dr,fun x7 M7 k7=>?_⟩⟩
    try walk_at "ev"
    have nu7:=k7.L hne3 nu6
    try walk_at "ev"
    refine Yu nu7 ?_
    try walk_at "ev"
    rw[Ye]
    try walk_at "ev"
    refine⟨by rw[List.length_append,List.length_singleton];omega,Sx nu7 (by rw[List.length_append,List.length_singleton];omega) rfl fun t ht=>⟨Z1 (by decide),?_⟩⟩
    exact fin (.jump z t) _ rfl rfl (fun g e=>by cases e;exact ht) ⟨trivial,trivial⟩ (k6.trans k7) [some (.ref r),some (.ref na),some (.int 39),some (.int many),some (.int m),some (.ref M3.length),none,some (.ref M4.length)] none rfl
   ·refine⟨Y8 (Z3 hw6),.inl ⟨_,-1,_,rfl,nu6,lastN,Z1 (by decide),?_⟩⟩
    exact fin (.fin z) _ rfl rfl (fun g e=>by cases e) ⟨trivial,trivial⟩ k6 [some (.ref r),some (.ref na),some (.int 39),some (.int many),some (.int m),some (.ref M3.length),none,some (.ref M4.length)] none rfl
end
def X9:DSp:=fun ds M Q _=>∃c:Int,ds=[.int c]∧∀(l:List Str) M' r,l.length=4→(∀x∈l,PyData.canLay0 (.str x)=true)→Kp M M'→Za M' r=some (l.map D.str)→Q (.ref r) M'
section
variable{K:PySem.W.Frag}
theorem Zf4(c:Int):c % 4=((0:Nat):Int)∨c % 4=((1:Nat):Int)∨c % 4=((2:Nat):Int)∨c % 4=((3:Nat):Int):=by omega
theorem Zc5{Γ G}:∀ds M Q Z,X9 ds M Q Z→tss ⟨K,Γ,G⟩ noX b_Lnames {nx:=fun _ M=>Q .non M,rt:=Q} (start0 Se ds) M:=by
 rintro ds M Q Z ⟨c,rfl,q⟩
 simp only[b_Lnames,Se]
 walk_at "ev"
 simp only[List.append_assoc,List.cons_append,List.nil_append,List.length_append,List.length_cons,List.length_nil]
 refine⟨Z1 (by decide),Z1 (by decide),Z1 (by decide),Z1 (by decide),?_⟩
 try walk_at "ev"
 simp only[List.append_assoc,List.cons_append,List.nil_append,List.length_append,List.length_cons,List.length_nil]
 refine⟨Y8 (by rw[Yp];rfl),Z1 (by decide),_,by rw[Yj];rfl,Z6 (by simp),?_⟩
 try walk_at "ev"
 rw[Yv]
 simp only[List.set_cons_succ,List.set_cons_zero,List.cons_append,List.nil_append]
 rw[qm (show(0:Int)<4 by decide)]
 have rO:∀a b c d e:Cell,Za (M++[a,b,c,d,e]) (M.length+3)=Za [a,b,c,d,e] 3:=fun a b c d e=>Yp M _ 3
 have fin:∀(N:Z0) (k:Nat) (l:List Str),Za N k=some (l.map D.str)→l.length=4→(∀x∈l,PyData.canLay0 (.str x)=true)→Q (.ref (M.length+k)) (M++N):=fun N k l h1 h2 h3=>q l _ _ h2 h3 (Kp.new _ _) (by rw[Yp];exact h1)
 rcases Zf4 c with e | e | e | e
 ·rw[e]
  refine ix_l (k:=0) (xs:=[.ref M.length,.ref (M.length+1),.ref (M.length+2),.ref (M.length+4)]) (by rw[rO];rfl) rfl ?_
  try walk_at "ev"
  exact fin _ 0 ["x","y","z","w"] rfl rfl (by decide+kernel)
 ·rw[e]
  refine ix_l (k:=1) (xs:=[.ref M.length,.ref (M.length+1),.ref (M.length+2),.ref (M.length+4)]) (by rw[rO];rfl) rfl ?_
  try walk_at "ev"
  exact fin _ 1 ["ab","aa","bb","ba"] rfl rfl (by decide+kernel)
 ·rw[e]
  refine ix_l (k:=2) (xs:=[.ref M.length,.ref (M.length+1),.ref (M.length+2),.ref (M.length+4)]) (by rw[rO];rfl) rfl ?_
  try walk_at "ev"
  exact fin _ 2 ["q1","q","q11","q2"] rfl rfl (by decide+kernel)
 ·rw[e]
  refine ix_l (k:=3) (xs:=[.ref M.length,.ref (M.length+1),.ref (M.length+2),.ref (M.length+4)]) (by rw[rO];rfl) rfl ?_
  try walk_at "ev"
  exact fin _ 4 ["sum1aaaa","sum1aaab","sum2aaaa","tum1aaaa"] rfl rfl (by decide+kernel)
end
def KI(kvs:List (Key×D)):Prop:=∀k v,(k,v)∈kvs→valD kvs k=some v∧∃i:Int,v= .int i
theorem Zb8{m:List (Key×D)}{x k:Key}{w v:D}(h:(k,v)∈putD m x w):(k=x∧v=w)∨(k≠x∧(k,v)∈m):=by
 unfold putD at h
 split at h
 ·obtain⟨⟨a,b⟩,h1,h2⟩:=List.mem_map.mp h
  dsimp only at h2
  split at h2
  ·rename_i e;cases h2;exact .inl ⟨e,rfl⟩
  ·rename_i e;cases h2;exact .inr ⟨e,h1⟩
 ·rename_i hn
  rcases List.mem_append.mp h with h | h
  ·refine .inr ⟨fun e=>hn ?_,h⟩
   rw[List.any_eq_true]
   exact⟨_,h,by simp[e]⟩
  ·cases List.mem_singleton.mp h;exact .inl ⟨rfl,rfl⟩
theorem KI.put{m:List (Key×D)}(h:KI m)(x:Key)(i:Int):KI (putD m x (.int i)):=by
 intro k v e
 rw[T7]
 rcases Zb8 e with⟨rfl,rfl⟩ | ⟨hne,e⟩
 ·rw[if_pos rfl];exact⟨rfl,i,rfl⟩
 ·rw[if_neg (Ne.symm hne)];exact h k v e
def KN(kvs:List (Key×D)):Prop:=(kvs.map (·.1)).Nodup∧∀k∈kvs.map (·.1),∃x:Str,k=Sum.inr x
theorem Nc(m:List (Key×D))(x:Key)(v:D):(x∈m.map (·.1)∧(putD m x v).map (·.1)=m.map (·.1))∨(¬x∈m.map (·.1)∧(putD m x v).map (·.1)=m.map (·.1)++[x]):=by
 unfold putD
 by_cases h:(m.any fun kv=>decide (kv.1=x))=true
 ·left
  refine⟨?_,?_⟩
  ·obtain⟨kv,h1,h2⟩:=List.any_eq_true.mp h
   exact List.mem_map.mpr ⟨kv,h1,of_decide_eq_true h2⟩
  rw[if_pos h,List.map_map]
  refine List.map_congr_left fun kv _=>?_
  show(if kv.1=x then(kv.1,v) else kv).1=kv.1
  split<;>rfl
 ·right
  refine⟨fun z=>?_,?_⟩
  ·obtain⟨kv,h1,h2⟩:=List.mem_map.mp z
   exact h (List.any_eq_true.mpr ⟨kv,h1,decide_eq_true h2⟩)
  rw[if_neg h,List.map_append]
  rfl
theorem KN.put{m:List (Key×D)}(h:KN m)(x:Str)(v:D):KN (putD m (Sum.inr x) v):=by
 unfold KN
 rcases Nc m (Sum.inr x) v with⟨_,e⟩ | ⟨hn,e⟩
 ·rw[e];exact h
 ·rw[e]
  refine⟨List.nodup_append.mpr ⟨h.1,List.nodup_cons.mpr ⟨by simp,List.nodup_nil⟩,fun a ha b hb z=>?_⟩,fun k hk=>?_⟩
  ·rw[List.mem_singleton] at hb;subst hb;subst z;exact hn ha
  ·rcases List.mem_append.mp hk with hk | hk
   ·exact h.2 k hk
   ·rw[List.mem_singleton] at hk;exact⟨x,hk⟩
def Ve:DSp:=fun ds M Q _=>∃(r na:Nat),ds=[.ref r,.ref na]∧Dr M r∧na≠r∧Nms M na∧∀(kvs:List (Key×D)) M' z,MI 64 kvs→KI kvs→KN kvs→kvs.length≤4→Ke r M M'→Zd M' z=some kvs→M.length≤z→Q (.ref z) M'
theorem MI.put64{kvs:List (Key×D)}(h:MI 64 kvs)(k:Key){i:Int}(hi:Bits 64 i):MI 64 (putD kvs k (.int i)):=by
 intro j v e
 rw[T7] at e
 split at e
 ·cases e;exact⟨i,rfl,hi⟩
 ·exact h j v e
theorem Ke.D{r a:Nat}{M M':Z0}{xs:List (Key×D)}(h:Ke r M M')(hx:a≠r)(e:Zd M a=some xs):Zd M' a=some xs:=by
 have:=Xy e
 unfold Zd at e ⊢
 rw[h.same a this hx]
 exact e
theorem Y08{M:Z0}{a:Nat}{xs ys:List (Key×D)}(h:Zd M a=some ys):Zd (M.set a (.dct xs)) a=some xs:=by
 have:=Xy h
 unfold Zd
 rw[List.getElem?_set_self this]
section
variable{K:PySem.W.Frag}
theorem Z51{Γ G}(g14:Γ[20]?=some Yx)(g16:Γ[22]?=some Xb):∀ds M Q Z,Ve ds M Q Z→tss ⟨K,Γ,G⟩ noX b_Lmemory {nx:=fun _ M=>Q .non M,rt:=Q} (start0 T3 ds) M:=by
 rintro ds M Q Z ⟨r,na,rfl,hd,har,⟨l,hl,_,hna⟩,q⟩
 have hnr:M.length≠r:=by have:=hd.lt;omega
 simp only[b_Lmemory,T3]
 walk_at "ev"
 refine⟨_,Zb hna,?_⟩
 try walk_at "ev"
 refine Rn (fun i σ M'=>∃(kvs:List (Key×D)) (d3 d4:Option D),σ=[some (.ref r),some (.ref na),some (.ref M.length),d3,d4]∧Ke r M M'∧Zd M' M.length=some kvs∧MI 64 kvs∧KI kvs∧KN kvs∧kvs.length≤i) ⟨[],none,none,rfl,(Ke.refl hd).app _,Y0 _ _ _,(fun k v e=>by cases e),(fun k v e=>by cases e),⟨List.nodup_nil,fun k h=>by cases h⟩,Nat.le_refl _⟩ ?_ ?_ ?_
 ·rintro i σ M' _ ⟨kvs,d3,d4,rfl,ke,hk,_⟩
  exact ke.L har hna
 ·rintro i dx σ M' C hx ⟨kvs,d3,d4,rfl,ke,hk,mi,ki,kn,len⟩ hC
  rw[List.getElem?_map,Option.map_eq_some_iff] at hx
  obtain⟨x,hx,rfl⟩:=hx
  have hi:i<4:=by have:=(List.getElem?_eq_some_iff.mp hx).1;omega
  simp only[R0]
  walk_at "ev"
  refine⟨r,rfl,ke.dr,fun w M1 k1=>?_⟩
  have hk1:=k1.D hnr hk
  try walk_at "ev"
  split
  ·refine⟨r,rfl,k1.dr,fun v M2 k2=>?_⟩
   have hk2:=k2.D hnr hk1
   try walk_at "ev"
   refine .inr ⟨kvs,_,hk2,rfl,Z6 (by omega),?_⟩
   have hbit:Bits 64 (qmod (v:Int) 41 - 20):=by
    rw[qm (by decide)]
    have h1:=Int.emod_nonneg (v:Int) (show(41:Int)≠0 by decide)
    have h2:=Int.emod_lt_of_pos (v:Int) (show(0:Int)<41 by decide)
    generalize (v:Int) % 41=u at h1 h2
    unfold Bits
    omega
   exact hC _ _ ⟨_,_,_,rfl,((ke.trans k1).trans k2).set (Nat.le_refl _) hnr _,Y08 hk2,mi.put64 _ hbit,ki.put _ _,kn.put _ _,by have:=T5 kvs (Sum.inr x) (.int (qmod (v:Int) 41 - 20));omega⟩
  ·try walk_at "ev"
   split
   ·refine⟨r,rfl,k1.dr,fun v M2 hv k2=>?_⟩
    have hk2:=k2.D hnr hk1
    try walk_at "ev"
    refine .inr ⟨kvs,_,hk2,rfl,Z6 (by omega),?_⟩
    exact hC _ _ ⟨_,_,_,rfl,((ke.trans k1).trans k2).set (Nat.le_refl _) hnr _,Y08 hk2,mi.put64 _ hv,ki.put _ _,kn.put _ _,by have:=T5 kvs (Sum.inr x) (.int v);omega⟩
   ·exact hC _ _ ⟨_,_,_,rfl,ke.trans k1,hk1,mi,ki,kn,by omega⟩
 ·rintro σ M' ⟨kvs,d3,d4,rfl,ke,hk,mi,ki,kn,len⟩
  simp only[R6]
  try walk_at "ev"
  rw[List.length_map,hl] at len
  exact q _ _ _ mi ki kn len ke hk (Nat.le_refl _)
end
def Dd(d:D):Prop:=∃l:List D,d= .tup l∧l.length≤6∧l.all Xc=true
noncomputable def nkey:Nd→Key
 | .sum x _ _ _ _=>Sum.inr x
 | _=>Sum.inr ""
theorem Z87{kv:List (Key×D)}{n:Nd}{s:D×List (Key×D)×Nat}(h:KI kv)(hn:KN kv)(e:stp kv n=some s):KI s.2.1∧KN s.2.1∧(∀k∈s.2.1.map (·.1),k∈kv.map (·.1)∨k=nkey n)∧Dd s.1:=by
 cases n with
 | sum x a sg b t=>
  rw[Wb,Option.map_eq_some_iff] at e
  obtain⟨w,_,rfl⟩:=e
  refine⟨h.put _ _,hn.put _ _,fun k hk=>?_,_,rfl,by simp,rfl⟩
  dsimp only at hk
  rcases Nc kv (Sum.inr x) (.int w) with⟨_,e⟩ | ⟨_,e⟩
  ·rw[e] at hk;exact .inl hk
  ·rw[e] at hk
   rcases List.mem_append.mp hk with hk | hk
   ·exact .inl hk
   ·rw[List.mem_singleton] at hk;exact .inr hk
 | test a sg b y z=>cases e;exact⟨h,hn,fun k hk=> .inl hk,_,rfl,by simp,rfl⟩
 | fin=>cases e
 | spin=>cases e
structure Tl(nds:List Nd)(kv:List (Key×D))(R:List D×Str×List (Key×D))(k:Nat):Prop where
 ki:KI R.2.2
 kn:KN R.2.2
 sub:∀x∈R.2.2.map (·.1),x∈kv.map (·.1)∨x∈nds.map nkey
 few:R.1.length≤k
 dd:∀d∈R.1,Dd d
theorem C3(nds:List Nd):∀(k pl:Nat) (kv:List (Key×D)),KI kv→KN kv→Tl nds kv (runN nds k pl kv) k:=by
 intro k
 have no:∀(w:Str) (k:Nat) (kv:List (Key×D)),KI kv→KN kv→Tl nds kv ([],w,kv) k:=fun w k kv h hn=>⟨h,hn,fun x hx=> .inl hx,Nat.zero_le _,fun d hd=>by cases hd⟩
 induction k with
 | zero=>intro pl kv h hn;exact no _ _ _ h hn
 | succ k ih=>
  intro p kv h hn
  show Tl nds kv (match nds[p]? with | some n=>(match stp kv n with | some s=>(s.1::(runN nds k s.2.2 s.2.1).1,(runN nds k s.2.2 s.2.1).2) | none=>([],if n.goes=true then "fault" else wrd (some n),kv)) | none=>([],"on",kv)) _
  cases hp:nds[p]? with
  | none=>exact no _ _ _ h hn
  | some n=>
   dsimp only
   cases e:stp kv n with
   | none=>exact no _ _ _ h hn
   | some s=>
    obtain⟨h1,h2,h3,h4⟩:=Z87 h hn e
    obtain⟨a,b,c,d,f⟩:=ih s.2.2 s.2.1 h1 h2
    refine⟨a,b,fun x hx=>?_,by dsimp only;rw[List.length_cons];omega,fun x hx=>?_⟩
    ·rcases c x hx with z | z
     ·rcases h3 x z with z | z
      ·exact .inl z
      ·exact .inr (z ▸ List.mem_map.mpr ⟨n,List.mem_of_getElem? hp,rfl⟩)
     ·exact .inr z
    ·rcases List.mem_cons.mp hx with rfl | hx
     ·exact h4
     ·exact f x hx
theorem Tl.len{nds:List Nd}{kv:List (Key×D)}{R:List D×Str×List (Key×D)}{k:Nat}(h:Tl nds kv R k):R.2.2.length≤kv.length+nds.length:=by
 have:=List.Nodup.length_le_of_subset h.kn.1 (l₂:=kv.map (·.1)++nds.map nkey) (fun x hx=>List.mem_append.mpr (h.sub x hx))
 rw[List.length_map,List.length_append,List.length_map,List.length_map] at this
 exact this
theorem AL.dd{M:Z0}{d:D}(h:Dd d):AL M 1 d d:=by
 obtain⟨l,rfl,hl,hf⟩:=h
 refine .inr (.inl ⟨l,l,rfl,rfl,rfl,by omega,fun i a b h1 h2=>?_⟩)
 rw[h1] at h2
 cases h2
 exact⟨rfl,List.all_eq_true.mp hf _ (List.mem_of_getElem? h1)⟩
theorem AL.dds{M:Z0}{r s:Nat}{l:List D}(h1:Zc M r=some l)(h2:Zc M s=some l)(hl:l.length≤100000)(h:∀d∈l,Dd d):AL M 2 (.ref r) (.ref s):=
 .inr (.inr ⟨r,s,l,l,rfl,rfl,h1,h2,rfl,hl,fun i a b e1 e2=>by rw[e1] at e2;cases e2;exact AL.dd (h _ (List.mem_of_getElem? e1))⟩)
noncomputable def nmS:Key→Str
 | Sum.inr x=>x
 | _=>""
theorem KN.names{kvs:List (Key×D)}(h:KN kvs):kvs.map (·.1)=(kvs.map fun kv=>nmS kv.1).map Sum.inr:=by
 rw[List.map_map]
 refine List.map_congr_left fun kv hkv=>?_
 obtain⟨x,e⟩:=h.2 kv.1 (List.mem_map.mpr ⟨kv,hkv,rfl⟩)
 show kv.1=Sum.inr (nmS kv.1)
 rw[e]
 rfl
theorem KI.at{kvs:List (Key×D)}(h:KI kvs){k:Key}(hk:k∈kvs.map (·.1)):∃i:Int,valD kvs k=some (.int i):=by
 obtain⟨⟨a,v⟩,hm,rfl⟩:=List.mem_map.mp hk
 obtain⟨h1,i,rfl⟩:=h a v hm
 exact⟨i,h1⟩
noncomputable def Z19(kvs:List (Key×D))(x:Str):D:= .tup [.str x,(valD kvs (Sum.inr x)).getD (.int 0)]
def Rm:DSp:=fun ds M Q _=>∃(a:Nat) (kvs:List (Key×D)),ds=[.ref a]∧Zd M a=some kvs∧KN kvs∧KI kvs∧kvs.length<64∧
 ∀(ms:List Str) M' r,ms.Perm (kvs.map fun kv=>nmS kv.1)→sortedS ms=true→Kp M M'→Zc M' r=some (ms.map (Z19 kvs))→Q (.ref r) M'
section
variable{K:PySem.W.Frag}
theorem Zd7{Γ G}:∀ds M Q Z,Rm ds M Q Z→tss ⟨K,Γ,G⟩ noX b_Lsides {nx:=fun _ M=>Q .non M,rt:=Q} (start0 Sb ds) M:=by
 rintro ds M Q Z ⟨a,kvs,rfl,ha,kn,ki,hl,q⟩
 simp only[b_Lsides,Sb]
 walk_at "ev"
 refine⟨kvs,kvs.map fun kv=>nmS kv.1,ha,kn.names,by rw[List.length_map];exact hl,fun ms hp hs=>?_⟩
 try walk_at "ev"
 have hlen:ms.length=kvs.length:=by rw[hp.length_eq,List.length_map]
 refine⟨_,Zy _ _ [],?_⟩
 try walk_at "ev"
 simp only[capD,List.map_cons,List.map_nil,Option.bind_none,Option.bind_some,List.getElem?_cons_zero,List.getElem?_cons_succ,Option.join_some]
 refine Wi (fun i σ M'=>∃d1,σ=[d1,some (.ref a)]∧M'=M++[.lst (ms.map .str)]++[.lst ((ms.take i).map (Z19 kvs))]) ⟨none,rfl,rfl⟩ ?_ ?_ ?_
 ·rintro i σ M' _ ⟨d1,rfl,rfl⟩
  exact Zb (Zy _ _ [])
 ·rintro i dx σ M' C hx ⟨d1,rfl,rfl⟩ hC
  rw[List.getElem?_map,Option.map_eq_some_iff] at hx
  obtain⟨x,hx,rfl⟩:=hx
  obtain⟨v,hv⟩:=ki.at (k:=Sum.inr x) (by rw[kn.names];exact List.mem_map.mpr ⟨x,hp.mem_iff.mp (List.mem_of_getElem? hx),rfl⟩)
  walk_at "ev"
  refine ix_d (X6 (X6 ha)) rfl hv ⟨Z1 (by decide),_,Zu _ _ [],by rw[List.length_map,List.length_take];exact Z6 (by omega),?_⟩
  rw[Yt]
  refine hC _ _ ⟨_,rfl,?_⟩
  rw[X7 hx,List.map_append]
  show _=_++[Cell.lst (_++[Z19 kvs x])]
  unfold Z19
  rw[hv]
  rfl
 ·rintro σ M' ⟨d1,rfl,rfl⟩
  rw[List.length_map,List.take_length]
  exact q ms _ _ hp hs ((Kp.new _ _).app _) (Zu _ _ [])
def Pe:DSp:=fun ds M Q _=>∃(r1 r2 h1 h2:Nat) (w:Str) (l:List D) (kvs:List (Key×D)),ds=[.tup [.ref r1,.str w,.ref h1],.tup [.ref r2,.str w,.ref h2]]∧Zc M r1=some l∧Zc M r2=some l∧Zd M h1=some kvs∧Zd M h2=some kvs∧l.length≤1000∧(∀d∈l,Dd d)∧KN kvs∧KI kvs∧kvs.length<64∧∀M',Kp M M'→Q (.bl true) M'
theorem Zu2{Γ G}(ga:Γ[26]?=some (X8 2))(gs:Γ[28]?=some Rm):∀ds M Q Z,Pe ds M Q Z→tss ⟨K,Γ,G⟩ noX b_Lsame {nx:=fun _ M=>Q .non M,rt:=Q} (start0 O7 ds) M:=by
 rintro ds M Q Z ⟨r1,r2,h1,h2,w,l,kvs,rfl,hr1,hr2,hh1,hh2,hl,hd,kn,ki,hk,q⟩
 have i1:∀{t:Ty} {B:Bool→Prop},isD K M (.ref h1) (.ty (Xa t)) B=B (tyDct t):=fun{t B}=>Zw2 hh1
 simp only[b_Lsame,O7]
 walk_at "ev"
 rw[if_pos (by decide)]
 refine⟨_,rfl,?_⟩
 simp only[i1]
 try walk_at "ev"
 simp only[Om]
 try walk_at "ev"
 try simp only[ga]
 refine⟨_,rfl,_,rfl,_,_,rfl,AL.dds hr1 hr2 (by omega) hd,?_⟩
 try walk_at "ev"
 try simp only[ga]
 refine⟨_,rfl,_,rfl,_,_,rfl,AL.flat rfl,?_⟩
 try walk_at "ev"
 simp only[Ng]
 try walk_at "ev"
 try simp only[gs,ga]
 refine⟨_,rfl,h1,kvs,rfl,hh1,kn,ki,hk,fun ms1 M1 s1 p1 o1 k1 w1=>?_⟩
 try walk_at "ev"
 try simp only[gs,ga]
 refine⟨_,rfl,h2,kvs,rfl,k1.D hh2,kn,ki,hk,fun ms2 M2 s2 p2 o2 k2 w2=>?_⟩
 try walk_at "ev"
 try simp only[ga]
 have e:ms1=ms2:=SW.Z13 o1 o2 (p1.trans p2.symm)
 subst e
 have hn:ms1.length<64:=by rw[p1.length_eq,List.length_map];exact hk
 refine⟨_,_,rfl,AL.dds (k2.W w1) w2 (by rw[List.length_map];omega) (fun d hd=>?_),?_⟩
 ·obtain⟨x,hx,rfl⟩:=List.mem_map.mp hd
  obtain⟨v,hv⟩:=ki.at (k:=Sum.inr x) (by rw[kn.names];exact List.mem_map.mpr ⟨x,p1.mem_iff.mp hx,rfl⟩)
  unfold Z19
  rw[hv]
  exact⟨_,rfl,by simp,rfl⟩
 ·exact q _ (k1.trans k2)
end
noncomputable def Opd.p:Opd→PyData
 | .nm x=> .str x
 | .no i=> .int i
theorem Opd.pd{M:Z0}(o:Opd):PD M o.p o.d:=by cases o<;>rfl
noncomputable def Nd.p:Nd→PyData
 | .sum x a sg b t=> .tuple [.str "sum",.str x,a.p,.str sg,b.p,.int t]
 | .test a sg b y n=> .tuple [.str "test",a.p,.str sg,b.p,.int y,.int n]
 | .fin=> .tuple [.str "end"]
 | .spin=> .tuple [.str "spin"]
theorem Nd.pd{M:Z0}(d:Nd):PD M d.p d.d:=by
 cases d with
 | sum x a sg b t=>exact⟨_,rfl,_,_,rfl,rfl,_,_,rfl,rfl,_,_,rfl,a.pd,_,_,rfl,rfl,_,_,rfl,b.pd,_,_,rfl,rfl,rfl⟩
 | test a sg b y n=>exact⟨_,rfl,_,_,rfl,rfl,_,_,rfl,a.pd,_,_,rfl,rfl,_,_,rfl,b.pd,_,_,rfl,rfl,_,_,rfl,rfl,rfl⟩
 | fin=>exact⟨_,rfl,_,_,rfl,rfl,rfl⟩
 | spin=>exact⟨_,rfl,_,_,rfl,rfl,rfl⟩
theorem Z69{M:Z0}:∀gr:List Nd,PDs M (gr.map Nd.p) (gr.map Nd.d)
 | []=>rfl
 | d::r=>⟨_,_,rfl,d.pd,Z69 r⟩
theorem Opd.lay(o:Opd)(h:o.ok=true):PyData.canLay0 o.p=true:=by
 cases o with
 | nm x=>exact h
 | no i=>rfl
theorem Nd.lay(d:Nd)(h:d.ok=true):PyData.canLay0 d.p=true:=by
 have i:∀t:Int,PyData.canLay0 (.int t)=true:=fun _=>rfl
 have s1:PyData.canLay0 (.str "sum")=true:=by decide+kernel
 have s2:PyData.canLay0 (.str "test")=true:=by decide+kernel
 have s3:PyData.canLay0 (.str "end")=true:=by decide+kernel
 have s4:PyData.canLay0 (.str "spin")=true:=by decide+kernel
 have tup:∀l,PyData.canLay0 (.tuple l)=PyData.canLayAll0 l:=fun _=>by rw[PyData.canLay0]
 have cons:∀x l,PyData.canLayAll0 (x::l)=(PyData.canLay0 x&&PyData.canLayAll0 l):=fun _ _=>by rw[PyData.canLayAll0]
 have nil:PyData.canLayAll0 []=true:=by rw[PyData.canLayAll0]
 cases d with
 | sum x a sg b t=>
  simp only[Nd.ok,Bool.and_eq_true] at h
  simp only[Nd.p,tup,cons,nil,s1,i,h.1.1.1,h.1.2,a.lay h.1.1.2,b.lay h.2,Bool.and_self]
 | test a sg b y n=>
  simp only[Nd.ok,Bool.and_eq_true] at h
  simp only[Nd.p,tup,cons,nil,s2,i,h.1.2,a.lay h.1.1,b.lay h.2,Bool.and_self]
 | fin=>simp only[Nd.p,tup,cons,nil,s3,Bool.and_self]
 | spin=>simp only[Nd.p,tup,cons,nil,s4,Bool.and_self]
theorem Z66:∀gr:List Nd,(∀d∈gr,d.ok=true)→PyData.canLayAll0 (gr.map Nd.p)=true
 | [],_=>by rw[List.map_nil,PyData.canLayAll0]
 | d::r,h=>by
  rw[List.map_cons]
  unfold PyData.canLayAll0
  rw[Z66 r fun x hx=>h x (List.mem_cons_of_mem _ hx),d.lay (h d List.mem_cons_self)]
  rfl
theorem Nd.dep(d:Nd):PyData.depth d.p≤5:=by
 cases d with
 | sum x a sg b t=>cases a<;>cases b<;>(simp only[Nd.p,Opd.p,PyData.depth,PyData.depthAll];decide)
 | test a sg b y n=>cases a<;>cases b<;>(simp only[Nd.p,Opd.p,PyData.depth,PyData.depthAll];decide)
 | fin=>simp only[Nd.p,PyData.depth,PyData.depthAll];decide
 | spin=>simp only[Nd.p,PyData.depth,PyData.depthAll];decide
theorem Z76:∀gr:List Nd,PyData.depthAll (gr.map Nd.p)≤5
 | []=>by simp[PyData.depthAll]
 | d::r=>by
  rw[List.map_cons]
  unfold PyData.depthAll
  have h1:=Z76 r
  have h2:=d.dep
  omega
theorem Y82{M:Z0}{m n:Nat}{gr:List Nd}{B:Bool→Prop}(ok:∀d∈gr,d.ok=true)(h1:Za M m=some (gr.map Nd.d))(h2:Za M n=some (gr.map Nd.d))(q:B true):eqD M (.ref m) (.ref n) B:=by
 have hc:PyData.canLay0 (.list (gr.map Nd.p))=true:=by unfold PyData.canLay0;exact Z66 gr ok
 refine .inl ⟨.list (gr.map Nd.p),.list (gr.map Nd.p),⟨m,_,rfl,h1,Z69 gr⟩,⟨n,_,rfl,h2,Z69 gr⟩,hc,hc,?_,?_⟩
 ·unfold PyData.depth
  have:=Z76 gr
  omega
 ·rw[PySem.SeqAt.eqv_refl _ hc]
  exact q
theorem Y78{r:Rw}(h:RB r)(rows:List Rw)(L:Nat→Nat)(p:Nat):(r.node rows L p).ok=true:=by
 have op:∀{o:Opd},OB o→o.ok=true:=fun{o} h=>by cases o with | nm x=>exact h | no i=>rfl
 have s6:∀s∈six,PyData.canLay0 (.str s)=true:=by unfold six;decide+kernel
 cases r with
 | sum k x a sg b=>
  obtain⟨⟨h1,h2⟩,h3,h4⟩:=h
  show(PyData.canLay0 (.str x)&&a.ok&&PyData.canLay0 (.str sg)&&b.ok)=true
  rw[h4,op h1,op h2,s6 sg h3]
  rfl
 | test k a sg b g=>
  obtain⟨⟨h1,h2,h3⟩,_⟩:=h
  show(a.ok&&PyData.canLay0 (.str sg)&&b.ok)=true
  have h5:PyData.canLay0 (.str sg)=true:=by rcases h3 with rfl | rfl<;>decide+kernel
  rw[op h1,op h2,h5]
  rfl
 | jump k g=>rfl
 | fin k=>rfl
theorem Zq3{rows:List Rw}(rb:∀r∈rows,RB r)(L:Nat→Nat):∀d∈Zq rows L,d.ok=true:=by
 intro d hd
 obtain⟨i,hi⟩:=List.getElem?_of_mem hd
 unfold Zq at hi
 rw[List.getElem?_mapIdx,Option.map_eq_some_iff] at hi
 obtain⟨r,hr,rfl⟩:=hi
 exact Y78 (rb r (List.mem_of_getElem? hr)) _ _ _
theorem Zu5{raw:List Nd}{O:List Nat}(h:∀d∈raw,d.ok=true):∀d∈gra raw O,d.ok=true:=by
 intro d hd
 unfold gra at hd
 obtain⟨x,hx,rfl⟩:=List.mem_map.mp hd
 rw[Nd.ok_to,List.getD_eq_getElem?_getD]
 cases e:raw[x]? with
 | none=>rfl
 | some d=>exact h d (List.mem_of_getElem? e)
theorem Zk8{M:Z0}{a b:Nat}{kvs:List (Key×D)}{B:Bool→Prop}(ha:Zd M a=some kvs)(hb:Zd M b=some kvs)(ki:KI kvs)(q:B true):eqD M (.ref a) (.ref b) B:=by
 have fl:(kvs.all fun kv=>Xc kv.2)=true:=List.all_eq_true.mpr fun kv hkv=>by
  obtain⟨_,i,e⟩:=ki kv.1 kv.2 hkv
  rw[e];rfl
 refine .inr ⟨a,b,kvs,kvs,rfl,rfl,ha,hb,fl,fl,?_⟩
 have:eqKV kvs kvs=true:=by
  unfold eqKV
  rw[beq_self_eq_true,Bool.true_and]
  refine List.all_eq_true.mpr fun kv hkv=>?_
  obtain⟨h1,i,e⟩:=ki kv.1 kv.2 hkv
  rw[h1,e]
  show(i==i)=true
  exact beq_self_eq_true i
 rw[this]
 exact q
structure Kx(X:List Nat)(M M':Z0):Prop where
 len:M.length≤M'.length
 same:∀a,a<M.length→¬a∈X→M'[a]?=M[a]?
section
variable{X:List Nat}{M M' M2:Z0}{a:Nat}
theorem Kx.kp(k:Kp M M'):Kx X M M':=by
 obtain⟨N,rfl⟩:=k
 exact⟨by rw[List.length_append];omega,fun a h _=>List.getElem?_append_left h⟩
theorem Kx.set(h:Kx X M M')(hx:a∈X)(c:Cell):Kx X M (M'.set a c):=⟨by rw[List.length_set];exact h.len,fun b hb hn=>by
 have z:a≠b:=fun z=>hn (by rw[←z];exact hx)
 rw[List.getElem?_set_ne z]
 exact h.same b hb hn⟩
theorem Kx.L(h:Kx X M M')(hx:¬a∈X){xs:List D}(e:Za M a=some xs):Za M' a=some xs:=by
 have:=Zx1 e
 unfold Za at e ⊢
 rw[h.same a this hx];exact e
theorem Kx.W(h:Kx X M M')(hx:¬a∈X){xs:List D}(e:Zc M a=some xs):Zc M' a=some xs:=by
 have:=Q7 e
 unfold Zc at e ⊢
 rw[h.same a this hx];exact e
theorem Kx.D(h:Kx X M M')(hx:¬a∈X){xs:List (Key×D)}(e:Zd M a=some xs):Zd M' a=some xs:=by
 have:=Xy e
 unfold Zd at e ⊢
 rw[h.same a this hx];exact e
end
theorem Y13{M:Z0}{nm r:Nat}{l:List Str}(hl:l.length=4)(h:Za M nm=some (l.map D.str))(hd:Dr M r):nm≠r:=by
 rintro rfl
 obtain⟨l',h'⟩:=hd
 rw[Z3 h'] at h
 match l,l',h with
 | [],_,_=>cases hl
 | _::_,[],h=>cases h
 | _::_,_::_,h=>cases h
theorem Zw7{M:Z0}{ga r:Nat}{gr:List Nd}(h0:0<gr.length)(h:Zc M ga=some (gr.map Nd.d))(hd:Dr M r):ga≠r:=by
 rintro rfl
 obtain⟨l',h'⟩:=hd
 rw[h'] at h
 match gr,l',h with
 | [],_,_=>cases h0
 | _::_,[],h=>cases h
 | d::_,_::_,h=>cases d<;>cases h
theorem rdW{M:Z0}{a:Nat}{xs:List D}{kvs:List (Key×D)}(h:Zc M a=some xs)(g:Zd M a=some kvs):False:=by
 unfold Zc at h;unfold Zd at g
 split at h<;>first | (rename_i e;rw[e] at g;cases g) | cases h
theorem rdL{M:Z0}{a:Nat}{xs:List D}{kvs:List (Key×D)}(h:Za M a=some xs)(g:Zd M a=some kvs):False:=by
 unfold Za at h;unfold Zd at g
 split at h<;>first | (rename_i e;rw[e] at g;cases g) | cases h
section
variable{K:PySem.W.Frag}
theorem Zp0{Γ G}(g14:Γ[14]?=some Z4)(g29:Γ[29]?=some Pe){M:Z0}{Q:DK}(q:∀M',Q (.bl true) M'){d0 d1 d2 d3 d6:Option D}{mm ga hn fr fh dr dh many:Nat}{w:Str}{gr:List Nd}{kvs hkv:List (Key×D)}{l:List D}
  (hga:Za M ga=some (gr.map Nd.d)) (hmm:Zd M mm=some kvs) (hhn:Zd M hn=some hkv) (hhl:hkv.length≤500) (hfr:Zc M fr=some (l++[.str "more"])) (hdr:Zc M dr=some (runN gr many 0 kvs).1) (hdh:Zd M dh=some (runN gr many 0 kvs).2.2) (el:l=(runN gr many 0 kvs).1)
  (ok:G5 gr) (pos:0<gr.length) (mi:MI 1064 kvs) (kl:kvs.length≤4) (hm:many≤1000) (T:Tl gr kvs (runN gr many 0 kvs) many) (h64:(runN gr many 0 kvs).2.2.length<64) (n1:hn≠mm) (n2:hn≠dh):
  tss ⟨K,Γ,G⟩ noX Jx {nx:=fun _ M=>Q .non M,rt:=Q} [d0,d1,d2,d3,some (.ref mm),some (.ref ga),d6,some (.int (many:Nat)),some (.ref hn),some (.tup [.ref fr,.str w,.ref fh]),some (.tup [.ref dr,.str (runN gr many 0 kvs).2.1,.ref dh])] M:=by
 simp only[Jx]
 walk_at "ev"
 refine⟨_,_,rfl,rfl,Y0 _ _ _,?_⟩
 rw[Yt]
 have m0:MI 64 []:=fun k v e=>by cases e
 have m1:MI 64 [((Sum.inr "x":Key),D.int 3)]:=m0.put64 (Sum.inr "x") (i:=3) (by unfold Bits;omega)
 have m2:=m1.put64 (Sum.inr "ab") (i:=-7) (by unfold Bits;omega)
 have l2:=T5 [((Sum.inr "x":Key),D.int 3)] (Sum.inr "ab") (.int (-7))
 refine⟨ga,M.length,20,gr,_,rfl,Zb hga,Y0 _ _ _,ok,pos,m2.mono (by decide),Nat.le_trans l2 (by decide),by decide,fun M1 r1 h1 k1 _ _ _ _=>?_⟩
 have kp:Kp M M1:=(Kp.new _ _).trans k1
 clear k1 m0 m1 m2 l2
 try refine Xd ?_
 try walk_at "ev"
 refine .inr ⟨hkv,_,kp.D hhn,rfl,Z6 (by omega),?_⟩
 have kx:Kx [hn] M (M1.set hn (.dct (putD hkv (Sum.inr "x") (.int ((many:Int)+1))))):=(Kx.kp kp).set (List.mem_singleton.mpr rfl) _
 generalize M1.set hn (.dct (putD hkv (Sum.inr "x") (.int ((many:Int)+1))))=M2 at kx ⊢
 have no:∀{a:Nat},a≠hn→¬a∈[hn]:=fun h z=>h (List.mem_singleton.mp z)
 have hga2:=kx.L (no fun e=>rdL hga (e ▸ hhn)) hga
 have hmm2:=kx.D (no (Ne.symm n1)) hmm
 have hfr2:=kx.W (no fun e=>rdW hfr (e ▸ hhn)) hfr
 have hdr2:=kx.W (no fun e=>rdW hdr (e ▸ hhn)) hdr
 have hdh2:=kx.D (no (Ne.symm n2)) hdh
 clear kx kp hga hmm hhn hfr hdr hdh
 try refine Xd ?_
 try walk_at "ev"
 try simp only[g14]
 try walk_at "ev"
 refine⟨ga,mm,many,gr,kvs,rfl,hga2,hmm2,ok,pos,mi,by omega,hm,fun M3 r3 h3 k3 hr3 hh3 _ _=>?_⟩
 simp only[g29]
 refine⟨r3,dr,h3,dh,_,_,_,rfl,hr3,k3.W hdr2,hh3,k3.D hdh2,by have:=T.few;omega,T.dd,T.kn,T.ki,h64,fun M4 k4=>?_⟩
 try walk_at "ev"
 refine⟨_,rfl,Yu (Z3 (k4.W (k3.W hfr2))) ⟨_,rfl,Yu (Z3 (k4.W (k3.W hdr2))) ?_⟩⟩
 try walk_at "ev"
 have e:decide ((((l++[D.str "more"]).length:Nat):Int)=((runN gr many 0 kvs).1.length:Int)+1)=true:=by
  rw[List.length_append,el,List.length_singleton]
  exact decide_eq_true (by omega)
 rw[e]
 exact q _
theorem Zo4{Γ G}(g14:Γ[14]?=some Z4)(g18:Γ[18]?=some Yq)(g29:Γ[29]?=some Pe){M:Z0}{Q:DK}(q:∀M',Q (.bl true) M'){d0 d1 d2:Option D}{rr mm ga he hn fr fh many:Nat}{rows:List Rw}{gr:List Nd}{kvs:List (Key×D)}
  (hrr:Za M rr=some (rows.map Rw.d)) (hga:Za M ga=some (gr.map Nd.d)) (hhe:Za M he=some (gr.map Nd.d)) (hmm:Zd M mm=some kvs) (hhn:Zd M hn=some kvs) (hfr:Zc M fr=some (runN gr many 0 kvs).1) (hfh:Zd M fh=some (runN gr many 0 kvs).2.2)
  (rok:RwOk rows) (rb:∀r∈rows,RB r) (same:lawR rows many kvs=runN gr many 0 kvs) (oks:∀d∈gr,d.ok=true) (ok:G5 gr) (pos:0<gr.length) (mi:MI 1064 kvs) (ki:KI kvs) (kl:kvs.length≤4) (hm:many≤1000) (T:Tl gr kvs (runN gr many 0 kvs) many) (h64:(runN gr many 0 kvs).2.2.length<64)
  (n1:hn≠mm) (n2:fh≠mm) (n3:fh≠hn) (n4:fr≠ga) (n5:fr≠he):
  tss ⟨K,Γ,G⟩ noX Pn {nx:=fun _ M=>Q .non M,rt:=Q} [d0,d1,d2,some (.ref rr),some (.ref mm),some (.ref ga),some (.ref he),some (.int (many:Nat)),some (.ref hn),some (.tup [.ref fr,.str (runN gr many 0 kvs).2.1,.ref fh]),none] M:=by
 simp only[Pn]
 walk_at "ev"
 try simp only[g18]
 refine .inl ⟨kvs,hmm,?_⟩
 try walk_at "ev"
 try simp only[g18]
 have l1:=Xy hmm
 refine⟨rr,M.length,many,rows,kvs,rfl,Zb hrr,rok,rb,Y0 _ _ _,mi,by omega,hm,fun M1 dr dh k1 hdr hdh b1 b2=>?_⟩
 rw[same] at hdr hdh ⊢
 have kp:Kp M M1:=(Kp.new _ _).trans k1
 rw[List.length_append] at b1 b2
 have c1:=Q7 hfr
 have c2:=Xy hfh
 have c3:=Xy hhn
 clear k1
 try refine Xd ?_
 try walk_at "ev"
 try simp only[g29]
 refine⟨fr,dr,fh,dh,_,_,_,rfl,kp.W hfr,hdr,kp.D hfh,hdh,by have:=T.few;omega,T.dd,T.kn,T.ki,h64,fun M2 k2=>?_⟩
 have kp2:=kp.trans k2
 have hdr2:=k2.W hdr
 have hdh2:=k2.D hdh
 have hga2:=kp2.L hga
 have hhe2:=kp2.L hhe
 have hmm2:=kp2.D hmm
 have hhn2:=kp2.D hhn
 have hfr2:=kp2.W hfr
 have hfh2:=kp2.D hfh
 clear k2 kp kp2 hdr hdh hga hhe hmm hhn hfr hfh hrr
 try walk_at "ev"
 refine Zk8 hhn2 hmm2 ki ?_
 try walk_at "ev"
 refine Y82 oks hga2 hhe2 ?_
 try walk_at "ev"
 try refine Xd ?_
 simp only[Z40]
 try walk_at "ev"
 refine⟨_,rfl,?_⟩
 rw[mk_append,mt_append_r]
 have few:=T.few
 refine⟨Y8 (Z3 hfr2),_,hfr2,Z6 (by omega),?_⟩
 have kx:Kx [fr,fh] M2 (M2.set fr (.lst ((runN gr many 0 kvs).1++[.str "more"]))):=(Kx.kp (Kp.refl _)).set (by simp) _
 have hfr3:Zc (M2.set fr (.lst ((runN gr many 0 kvs).1++[.str "more"]))) fr=some ((runN gr many 0 kvs).1++[.str "more"]):=Jp hfr2
 have hfh3:Zd (M2.set fr (.lst ((runN gr many 0 kvs).1++[.str "more"]))) fh=some (runN gr many 0 kvs).2.2:=by rw[Oi (fun e=>rdW hfr2 (e ▸ hfh2))];exact hfh2
 generalize M2.set fr (.lst ((runN gr many 0 kvs).1++[.str "more"]))=M3 at kx hfr3 hfh3 ⊢
 try refine Xd ?_
 try walk_at "ev"
 refine⟨_,rfl,.inr ⟨_,_,hfh3,rfl,Z6 (by omega),?_⟩⟩
 have kx4:=kx.set (a:=fh) (by simp) (.dct (putD (runN gr many 0 kvs).2.2 (Sum.inr "x") (.int (many:Nat))))
 have hfr4:Zc (M3.set fh (.dct (putD (runN gr many 0 kvs).2.2 (Sum.inr "x") (.int (many:Nat))))) fr=some ((runN gr many 0 kvs).1++[.str "more"]):=by rw[Nx (fun e=>rdW hfr2 (e ▸ hfh2))];exact hfr3
 generalize M3.set fh (.dct (putD (runN gr many 0 kvs).2.2 (Sum.inr "x") (.int (many:Nat))))=M4 at kx4 hfr4 ⊢
 have no:∀{a:Nat},a≠fr→a≠fh→¬a∈[fr,fh]:=fun h g z=>by
  rcases List.mem_cons.mp z with z | z
  ·exact h z
  ·exact g (List.mem_singleton.mp z)
 have hmm4:=kx4.D (no (fun e=>rdW hfr2 (e ▸ hmm2)) (Ne.symm n2)) hmm2
 have hhn4:=kx4.D (no (fun e=>rdW hfr2 (e ▸ hhn2)) (Ne.symm n3)) hhn2
 have hga4:=kx4.L (no (Ne.symm n4) (fun e=>rdL hga2 (e ▸ hfh2))) hga2
 have hdr4:=kx4.W (no (by omega) (fun e=>rdW hdr2 (e ▸ hfh2))) hdr2
 have hdh4:=kx4.D (no (fun e=>rdW hfr2 (e ▸ hdh2)) (by omega)) hdh2
 clear kx kx4 hfr3 hfh3 hmm2 hhn2 hga2 hdr2 hdh2 hhe2 hfr2 hfh2
 try refine Xd ?_
 try walk_at "ev"
 refine Zk8 hhn4 hmm4 ki ?_
 try walk_at "ev"
 try refine Xd ?_
 exact Zp0 g14 g29 q hga4 hmm4 hhn4 (by omega) hfr4 hdr4 hdh4 rfl ok pos mi kl hm T h64 n1 (by omega)
theorem Y76{Γ G}{tg:Addr}(g14:Γ[14]?=some Z4)(g31:Γ[31]?=some (fun as M Q Z=>Z4 (as++[.int 100]) M Q Z))(g17:Γ[17]?=some (Y3 tg))(g18:Γ[18]?=some Yq)(g19:Γ[19]?=some Yr)(g20:Γ[20]?=some Yx)(g21:Γ[21]?=some X9)(g25:Γ[25]?=some Vk)(g27:Γ[27]?=some Ve)(g29:Γ[29]?=some Pe):∀ds M Q Z,Ca ds M Q Z→tss ⟨K,Γ,G⟩ noX b_law {nx:=fun _ M=>Q .non M,rt:=Q} (start0 Zi2 ds) M:=by
 rintro ds M Q Z ⟨ns,rfl,rfl,hns,hbits,q⟩
 simp only[b_law,Zi2]
 walk_at "ev"
 try simp only[g19]
 refine⟨0,ns,rfl,rfl,hns,fun M1 r hd k1 _=>?_⟩
 clear k1
 try walk_at "ev"
 try simp only[g20]
 refine⟨r,rfl,hd,fun x1 M2 ke2=>?_⟩
 try walk_at "ev"
 try simp only[g21]
 refine⟨_,rfl,fun l M3 nm hl4 hok k3 hnm=>?_⟩
 have hd3:=ke2.dr.kp k3
 have hne:=Y13 hl4 hnm hd3
 have nms:Nms M3 nm:=⟨l,hl4,hok,hnm⟩
 clear k3 ke2 hd
 try walk_at "ev"
 try simp only[g25]
 refine⟨r,nm,rfl,hd3,hne,nms,fun rows M4 rr rok h40 rb ke4 hrr hrr0=>?_⟩
 have hrn:rr≠r:=by have:=hd3.lt;omega
 try walk_at "ev"
 try simp only[g27]
 have l4:=ke4.dr.lt
 refine⟨r,nm,rfl,ke4.dr,hne,nms.ke ke4 hne,fun kvs M5 mm mi ki kn hk4 ke5 hmm hmm0=>?_⟩
 have hrr5:=ke5.W hrn hrr
 have hmr:mm≠r:=by omega
 have hd5:=ke5.dr
 clear ke4 ke5 hrr nms hnm
 try walk_at "ev"
 try simp only[g17]
 refine⟨rr,rows,rfl,Z3 hrr5,rok,fun L d ln ends=>?_⟩
 obtain⟨nd,cl,last⟩:=ends.facts
 have hlen:=Yn rows L
 have hin:∀y∈d,y<rows.length:=Z90 (S:=(· <rows.length)) (fun y hy t ht=>by
  obtain⟨dd,hdd⟩:∃dd,(Zq rows L)[y]?=some dd:=⟨_,List.getElem?_eq_getElem (by rw[hlen];exact hy)⟩
  rw[Z11 hdd] at ht
  exact Ea rok ln dd (List.mem_of_getElem? hdd) t ht) (ln.lt 0 rok.pos) ends
 have dl:d.length≤rows.length:=ND.Xi _ d nd hin
 refine⟨fun _ M6 ga k6 hga=>?_,fun h=>by omega⟩
 have hin':∀x∈d.reverse,x< (Zq rows L).length:=fun x hx=>by rw[hlen];exact hin x (List.mem_reverse.mp hx)
 have cl':∀x∈d.reverse,∀t∈wy (Zq rows L) x,t∈d.reverse:=fun x hx t ht=>List.mem_reverse.mpr (cl x (List.mem_reverse.mp hx) t ht)
 have hmem:L 0∈d.reverse:=List.mem_reverse.mpr (List.mem_of_getLast? last)
 have hidx:d.reverse.idxOf (L 0)=0:=by
  have:d.reverse[0]?=some (L 0):=by rw[←List.head?_eq_getElem?,List.head?_reverse];exact last
  cases e:d.reverse with
  | nil=>rw[e] at this;cases this
  | cons a b=>rw[e] at this;cases this;exact List.idxOf_cons_self
 have same:∀many,lawR rows many kvs=runN (gra (Zq rows L) d.reverse) many 0 kvs:=fun many=>by
  have h1:=Zn7 hin' cl' many (L 0) kvs hmem
  rw[hidx] at h1
  rw[h1]
  exact Zj3 rok ln many 0 kvs rok.pos
 have nok:=Y34 (E1 rok rb ln) hin' cl'
 have oks:=Zu5 (O:=d.reverse) (Zq3 rb L)
 have gl:(gra (Zq rows L) d.reverse).length=d.length:=by rw[O6,List.length_reverse]
 have pos:0< (gra (Zq rows L) d.reverse).length:=by
  rw[gl]
  cases d with
  | nil=>cases last
  | cons _ _=>simp
 generalize gra (Zq rows L) d.reverse=gr at *
 clear nd cl last hin hin' cl' hmem hidx ends ln hlen
 have hrr6:=k6.W hrr5
 have hmm6:=k6.D hmm
 have hd6:=hd5.kp k6
 clear k6 hrr5 hmm hd5
 have hgr:=Zw7 pos hga hd6
 have lr:=hd6.lt
 have lg:=Q7 hga
 have lm:=Xy hmm6
 try walk_at "ev"
 refine⟨_,Z3 hga,?_⟩
 try refine Xd ?_
 try walk_at "ev"
 try simp only[g20]
 refine⟨r,rfl,hd6.app _,fun x7 M7 ke7=>?_⟩
 have hga7:=ke7.W hgr (Zs hga)
 have hhe7:=ke7.L (by omega) (Zy M6 (gr.map Nd.d) [])
 have hrr7:=ke7.W hrn (Zs hrr6)
 have hmm7:=ke7.D hmr (X6 hmm6)
 have hd7:=ke7.dr
 have len7:=ke7.len
 rw[List.length_append,List.length_singleton] at len7
 clear ke7 hga hrr6 hmm6 hd6
 generalize M6.length=he at *
 try walk_at "ev"
 rw[qm (show(0:Int)<120 by decide)]
 obtain⟨m0,hm0,em⟩:∃n:Nat,n<120∧(x7:Int) % 120=(n:Int):=⟨((x7:Int) % 120).toNat,by have:=Int.emod_lt_of_pos (x7:Int) (show(0:Int)<120 by decide);omega,by have:=Int.emod_nonneg (x7:Int) (show(120:Int)≠0 by decide);omega⟩
 rw[em]
 try refine Xd ?_
 try walk_at "ev"
 refine .inl ⟨kvs,hmm7,?_⟩
 try refine Xd ?_
 try walk_at "ev"
 try simp only[g20]
 refine⟨r,rfl,hd7.app _,fun x8 M8 ke8=>?_⟩
 have hga8:=ke8.W hgr (Zs hga7)
 have hhe8:=ke8.L (by omega) (Zb hhe7)
 have hrr8:=ke8.W hrn (Zs hrr7)
 have hmm8:=ke8.D hmr (X6 hmm7)
 have hhn8:=ke8.D (by omega) (Y0 M7 kvs [])
 have lm7:=Xy hmm7
 have lg7:=Q7 hga7
 have len8:=ke8.len
 rw[List.length_append,List.length_singleton] at len8
 clear ke8 hga7 hhe7 hrr7 hmm7 hd7
 generalize M7.length=hn at *
 have mi':MI 1064 kvs:=mi.mono (by decide)
 have fin:∀(many:Nat),many<120→∀M9 fr fh,Kp M8 M9→Zc M9 fr=some (runN gr many 0 kvs).1→Zd M9 fh=some (runN gr many 0 kvs).2.2→M8.length≤fr→M8.length≤fh→tss ⟨K,Γ,G⟩ noX Pn {nx:=fun _ M=>Q .non M,rt:=Q} [some (.ref 0),some (.ref r),some (.ref nm),some (.ref rr),some (.ref mm),some (.ref ga),some (.ref he),some (.int (many:Nat)),some (.ref hn),some (.tup [.ref fr,.str (runN gr many 0 kvs).2.1,.ref fh]),none] M9:=by
  intro many hmany M9 fr fh k9 hfr hfh b1 b2
  have T:=C3 gr many 0 kvs ki kn
  have tl:=T.len
  exact Zo4 g14 g18 g29 q (Z3 (k9.W hrr8)) (Z3 (k9.W hga8)) (k9.L hhe8) (k9.D hmm8) (k9.D hhn8) hfr hfh rok rb (same many) oks nok pos mi' ki hk4 (by omega) T (by omega) (by omega) (by omega) (by omega) (by omega) (by omega)
 try walk_at "ev"
 split
 ·try walk_at "ev"
  try simp only[g31]
  refine⟨ga,hn,100,gr,kvs,rfl,Z3 hga8,hhn8,nok,pos,mi',by omega,by decide,fun M9 fr fh k9 hfr hfh b1 b2=>?_⟩
  try walk_at "ev"
  try refine Xd ?_
  exact fin 100 (by decide) M9 fr fh k9 hfr hfh b1 b2
 ·try walk_at "ev"
  try simp only[g14]
  refine⟨ga,hn,m0,gr,kvs,rfl,Z3 hga8,hhn8,nok,pos,mi',by omega,by omega,fun M9 fr fh k9 hfr hfh b1 b2=>?_⟩
  try walk_at "ev"
  try refine Xd ?_
  exact fin m0 hm0 M9 fr fh k9 hfr hfh b1 b2
end
set_option maxHeartbeats 0 in
theorem Y32{P:Program}{w:World}{K:PySem.W.Frag}{mg:Str→Option Value}{base:Heap}{t:Adr}(T:Tx K mg t):FnOk P w K mg base (CX1 P w) 35 t.a_law t.d_law ["_law_script"] (spF K Ca):=by
 have PZ:Prg P w K mg base ⟨K,[bot,bot,bot,bot,bot,bot,bot,bot,bot,bot,bot,bot,bot,bot,bot,bot,bot,bot,bot,bot,bot,bot,bot,bot,bot,bot,bot,bot,bot,bot,bot,bot,bot],[.cls t.a_JumpError,.cls t.a_ByNought,.cls t.a_TooGreat,.int 40]⟩ FN GN BN 0:=Prg.zero ⟨_,_,_,T.g_run_graph,T.k_run_graph,T.kb⟩ (ents T) rfl (by intro sp h;simp only[List.mem_cons,List.not_mem_nil,or_false,or_self] at h;exact h) (fun g x d h1 h2=>match g,h1,h2 with | 0,h1,h2=>by cases h1;cases h2;exact⟨.ref _,.ref _,T.g_JumpError,rfl,fun w _=>Rt.mpr rfl⟩ | 1,h1,h2=>by cases h1;cases h2;exact⟨.ref _,.ref _,T.g_ByNought,rfl,fun w _=>Rt.mpr rfl⟩ | 2,h1,h2=>by cases h1;cases h2;exact⟨.ref _,.ref _,T.g_TooGreat,rfl,fun w _=>Rt.mpr rfl⟩ | 3,h1,h2=>by cases h1;cases h2;obtain⟨tk,e⟩:=T.q_MOST_NODES;exact⟨.int 40,_,e,⟨tk,rfl⟩,fun w _=>Zf.mpr rfl⟩ | n+4,h1,h2=>by cases h2) (blts T)
 have P0:=PZ.up (show 0≤2 by decide)
 have F0:=fn1 P0 (PrgR.one rfl T.mk_ByNought (T.i_ok _ _ _ _) (by decide) T.i_b1 T.i_b0 T.set_ByNought) T.F_quotient Gh Bd (sp:=Zj t.a_ByNought qdiv) (by rintro _ _ _ _ ⟨_,_,rfl,_⟩;rfl) B7
 have P1:Prg P w K mg base ⟨K,[Zj t.a_ByNought qdiv,bot,bot,bot,bot,bot,bot,bot,bot,bot,bot,bot,bot,bot,bot,bot,bot,bot,bot,bot,bot,bot,bot,bot,bot,bot,bot,bot,bot,bot,bot,bot,bot],[.cls t.a_JumpError,.cls t.a_ByNought,.cls t.a_TooGreat,.int 40]⟩ FN GN BN 3:=P0.add 0 (x:="quotient") rfl F0 (Nat.le_refl _) (Nat.le_succ _) T.g_quotient T.k_quotient T.b_quotient
 have F1:=fn1 P1 (PrgR.one rfl T.mk_ByNought (T.i_ok _ _ _ _) (by decide) T.i_b1 T.i_b0 T.set_ByNought) T.F_rest Zt9 Zw1 (sp:=Zj t.a_ByNought qmod) (by rintro _ _ _ _ ⟨_,_,rfl,_⟩;rfl) Zz7
 have P2:Prg P w K mg base ⟨K,[Zj t.a_ByNought qdiv,Zj t.a_ByNought qmod,bot,bot,bot,bot,bot,bot,bot,bot,bot,bot,bot,bot,bot,bot,bot,bot,bot,bot,bot,bot,bot,bot,bot,bot,bot,bot,bot,bot,bot,bot,bot],[.cls t.a_JumpError,.cls t.a_ByNought,.cls t.a_TooGreat,.int 40]⟩ FN GN BN 4:=P1.add 1 (x:="rest") rfl F1 (Nat.le_refl _) (Nat.le_succ _) T.g_rest T.k_rest T.b_rest
 have F2:=fn1 P2 PrgR.none T.F_made Zt7 Zv5 (sp:=Zx t.a_ByNought) (by rintro _ _ _ _ ⟨_,_,_,rfl,_⟩;rfl) (Zz3 rfl rfl)
 have P3:Prg P w K mg base ⟨K,[Zj t.a_ByNought qdiv,Zj t.a_ByNought qmod,Zx t.a_ByNought,bot,bot,bot,bot,bot,bot,bot,bot,bot,bot,bot,bot,bot,bot,bot,bot,bot,bot,bot,bot,bot,bot,bot,bot,bot,bot,bot,bot,bot,bot],[.cls t.a_JumpError,.cls t.a_ByNought,.cls t.a_TooGreat,.int 40]⟩ FN GN BN 5:=P2.add 2 (x:="made") rfl F2 (Nat.le_refl _) (Nat.le_succ _) T.g_made T.k_made T.b_made
 have F3:=fn0 P3 T.F_holds Za9 Zp1 (sp:=Zm) (by rintro _ _ _ _ ⟨_,_,_,rfl,_⟩;rfl) Zr8
 have P4:Prg P w K mg base ⟨K,[Zj t.a_ByNought qdiv,Zj t.a_ByNought qmod,Zx t.a_ByNought,Zm,bot,bot,bot,bot,bot,bot,bot,bot,bot,bot,bot,bot,bot,bot,bot,bot,bot,bot,bot,bot,bot,bot,bot,bot,bot,bot,bot,bot,bot],[.cls t.a_JumpError,.cls t.a_ByNought,.cls t.a_TooGreat,.int 40]⟩ FN GN BN 6:=P3.add 3 (x:="holds") rfl F3 (Nat.le_refl _) (Nat.le_succ _) T.g_holds T.k_holds T.b_holds
 have F4:=fn0 P4 T.F_worth Zg0 Zo0 (sp:=Zl) (by rintro _ _ _ _ ⟨_,_,_,_,rfl,_⟩;rfl) Zu1
 have P5:Prg P w K mg base ⟨K,[Zj t.a_ByNought qdiv,Zj t.a_ByNought qmod,Zx t.a_ByNought,Zm,Zl,bot,bot,bot,bot,bot,bot,bot,bot,bot,bot,bot,bot,bot,bot,bot,bot,bot,bot,bot,bot,bot,bot,bot,bot,bot,bot,bot,bot],[.cls t.a_JumpError,.cls t.a_ByNought,.cls t.a_TooGreat,.int 40]⟩ FN GN BN 7:=P4.add 4 (x:="worth") rfl F4 (Nat.le_refl _) (Nat.le_succ _) T.g_worth T.k_worth T.b_worth
 have F5:=fn1 P5 PrgR.none T.F_deed_of_sum Q0 Px (sp:=Z8 t.a_ByNought) (by rintro _ _ _ _ ⟨_,_,_,_,_,_,_,_,rfl,_⟩;rfl) (O0 rfl rfl)
 have P6:Prg P w K mg base ⟨K,[Zj t.a_ByNought qdiv,Zj t.a_ByNought qmod,Zx t.a_ByNought,Zm,Zl,Z8 t.a_ByNought,bot,bot,bot,bot,bot,bot,bot,bot,bot,bot,bot,bot,bot,bot,bot,bot,bot,bot,bot,bot,bot,bot,bot,bot,bot,bot,bot],[.cls t.a_JumpError,.cls t.a_ByNought,.cls t.a_TooGreat,.int 40]⟩ FN GN BN 8:=P5.add 5 (x:="deed_of_sum") rfl F5 (Nat.le_refl _) (Nat.le_succ _) T.g_deed_of_sum T.k_deed_of_sum T.b_deed_of_sum
 have F6:=fn0 P6 T.F_deed_of_test Ro Q9 (sp:=Z7) (by rintro _ _ _ _ ⟨_,_,_,_,_,_,rfl,_⟩;rfl) (Q6 rfl rfl)
 have P7:Prg P w K mg base ⟨K,[Zj t.a_ByNought qdiv,Zj t.a_ByNought qmod,Zx t.a_ByNought,Zm,Zl,Z8 t.a_ByNought,Z7,bot,bot,bot,bot,bot,bot,bot,bot,bot,bot,bot,bot,bot,bot,bot,bot,bot,bot,bot,bot,bot,bot,bot,bot,bot,bot],[.cls t.a_JumpError,.cls t.a_ByNought,.cls t.a_TooGreat,.int 40]⟩ FN GN BN 9:=P6.add 6 (x:="deed_of_test") rfl F6 (Nat.le_refl _) (Nat.le_succ _) T.g_deed_of_test T.k_deed_of_test T.b_deed_of_test
 have F7:=fn0 P7 T.F_ways Zn9 Y39 (sp:=Y6) (by rintro _ _ _ _ ⟨_,rfl,_⟩;rfl) Zu9
 have P8:Prg P w K mg base ⟨K,[Zj t.a_ByNought qdiv,Zj t.a_ByNought qmod,Zx t.a_ByNought,Zm,Zl,Z8 t.a_ByNought,Z7,Y6,bot,bot,bot,bot,bot,bot,bot,bot,bot,bot,bot,bot,bot,bot,bot,bot,bot,bot,bot,bot,bot,bot,bot,bot,bot],[.cls t.a_JumpError,.cls t.a_ByNought,.cls t.a_TooGreat,.int 40]⟩ FN GN BN 10:=P7.add 7 (x:="ways") rfl F7 (Nat.le_refl _) (Nat.le_succ _) T.g_ways T.k_ways T.b_ways
 have F8:=fn0 P8 T.F_with_ways J8 Jo (sp:=Yd) (by rintro _ _ _ _ ⟨_,_,_,rfl,_⟩;rfl) Zv4
 have P9:Prg P w K mg base ⟨K,[Zj t.a_ByNought qdiv,Zj t.a_ByNought qmod,Zx t.a_ByNought,Zm,Zl,Z8 t.a_ByNought,Z7,Y6,Yd,bot,bot,bot,bot,bot,bot,bot,bot,bot,bot,bot,bot,bot,bot,bot,bot,bot,bot,bot,bot,bot,bot,bot,bot],[.cls t.a_JumpError,.cls t.a_ByNought,.cls t.a_TooGreat,.int 40]⟩ FN GN BN 11:=P8.add 8 (x:="with_ways") rfl F8 (Nat.le_refl _) (Nat.le_succ _) T.g_with_ways T.k_with_ways T.b_with_ways
 have F9:=fn0 P9 T.F_walked Z30 Za6 (sp:=Zk) (by rintro _ _ _ _ ⟨_,_,_,_,rfl,_⟩;rfl) Zc6
 have P10:Prg P w K mg base ⟨K,[Zj t.a_ByNought qdiv,Zj t.a_ByNought qmod,Zx t.a_ByNought,Zm,Zl,Z8 t.a_ByNought,Z7,Y6,Yd,Zk,bot,bot,bot,bot,bot,bot,bot,bot,bot,bot,bot,bot,bot,bot,bot,bot,bot,bot,bot,bot,bot,bot,bot],[.cls t.a_JumpError,.cls t.a_ByNought,.cls t.a_TooGreat,.int 40]⟩ FN GN BN 12:=P9.add 9 (x:="walked") rfl F9 (Nat.le_refl _) (Nat.le_succ _) T.g_walked T.k_walked T.b_walked
 have F10:=fn0 P10 T.F_numbered G0 Ez (sp:=Z9) (by rintro _ _ _ _ ⟨_,_,_,_,rfl,_⟩;rfl) (B4 rfl rfl)
 have P11:Prg P w K mg base ⟨K,[Zj t.a_ByNought qdiv,Zj t.a_ByNought qmod,Zx t.a_ByNought,Zm,Zl,Z8 t.a_ByNought,Z7,Y6,Yd,Zk,Z9,bot,bot,bot,bot,bot,bot,bot,bot,bot,bot,bot,bot,bot,bot,bot,bot,bot,bot,bot,bot,bot,bot],[.cls t.a_JumpError,.cls t.a_ByNought,.cls t.a_TooGreat,.int 40]⟩ FN GN BN 13:=P10.add 10 (x:="numbered") rfl F10 (Nat.le_refl _) (Nat.le_succ _) T.g_numbered T.k_numbered T.b_numbered
 have F11:=fn0 P11 T.F_behind Z03 Zg5 (sp:=Zn) (by rintro _ _ _ _ ⟨_,_,_,rfl,_⟩;rfl) Zg7
 have P12:Prg P w K mg base ⟨K,[Zj t.a_ByNought qdiv,Zj t.a_ByNought qmod,Zx t.a_ByNought,Zm,Zl,Z8 t.a_ByNought,Z7,Y6,Yd,Zk,Z9,Zn,bot,bot,bot,bot,bot,bot,bot,bot,bot,bot,bot,bot,bot,bot,bot,bot,bot,bot,bot,bot,bot],[.cls t.a_JumpError,.cls t.a_ByNought,.cls t.a_TooGreat,.int 40]⟩ FN GN BN 14:=P11.add 11 (x:="behind") rfl F11 (Nat.le_refl _) (Nat.le_succ _) T.g_behind T.k_behind T.b_behind
 have F12:=fn1 P12 PrgR.none T.F_deed_of C6 By (sp:=Zo t.a_ByNought) (by rintro _ _ _ _ ⟨_,_,_,_,rfl,_⟩;rfl) (Bx rfl rfl)
 have P13:Prg P w K mg base ⟨K,[Zj t.a_ByNought qdiv,Zj t.a_ByNought qmod,Zx t.a_ByNought,Zm,Zl,Z8 t.a_ByNought,Z7,Y6,Yd,Zk,Z9,Zn,Zo t.a_ByNought,bot,bot,bot,bot,bot,bot,bot,bot,bot,bot,bot,bot,bot,bot,bot,bot,bot,bot,bot,bot],[.cls t.a_JumpError,.cls t.a_ByNought,.cls t.a_TooGreat,.int 40]⟩ FN GN BN 15:=P12.add 12 (x:="deed_of") rfl F12 (Nat.le_refl _) (Nat.le_succ _) T.g_deed_of T.k_deed_of T.b_deed_of
 have F13:=fn0 P13 T.F_run_from G2 Bc (sp:=Zh) (by rintro _ _ _ _ ⟨_,_,_,_,_,_,rfl,_⟩;rfl) (Ct T.co_ByNought rfl rfl)
 have P14:Prg P w K mg base ⟨K,[Zj t.a_ByNought qdiv,Zj t.a_ByNought qmod,Zx t.a_ByNought,Zm,Zl,Z8 t.a_ByNought,Z7,Y6,Yd,Zk,Z9,Zn,Zo t.a_ByNought,Zh,bot,bot,bot,bot,bot,bot,bot,bot,bot,bot,bot,bot,bot,bot,bot,bot,bot,bot,bot],[.cls t.a_JumpError,.cls t.a_ByNought,.cls t.a_TooGreat,.int 40]⟩ FN GN BN 16:=P13.add 13 (x:="run_from") rfl F13 (Nat.le_refl _) (Nat.le_succ _) T.g_run_from T.k_run_from T.b_run_from
 have F14:=fn0 P14 T.F_run_graph Oz G7 (sp:=Z4) (by rintro _ _ _ _ ⟨_,_,_,_,_,rfl,_⟩;rfl) (Jy rfl)
 have P15:Prg P w K mg base ⟨K,[Zj t.a_ByNought qdiv,Zj t.a_ByNought qmod,Zx t.a_ByNought,Zm,Zl,Z8 t.a_ByNought,Z7,Y6,Yd,Zk,Z9,Zn,Zo t.a_ByNought,Zh,Z4,bot,bot,bot,bot,bot,bot,bot,bot,bot,bot,bot,bot,bot,bot,bot,bot,bot,bot],[.cls t.a_JumpError,.cls t.a_ByNought,.cls t.a_TooGreat,.int 40]⟩ FN GN BN 17:=P14.add 14 (x:="run_graph") rfl F14 (Nat.le_refl _) (Nat.le_succ _) T.g_run_graph T.k_run_graph T.b_run_graph (fun _=>⟨rfl,T.kb⟩)
 obtain⟨tk14,eb14⟩:=T.e_run_graph
 have P15d:Prg P w K mg base ⟨K,[Zj t.a_ByNought qdiv,Zj t.a_ByNought qmod,Zx t.a_ByNought,Zm,Zl,Z8 t.a_ByNought,Z7,Y6,Yd,Zk,Z9,Zn,Zo t.a_ByNought,Zh,Z4,bot,bot,bot,bot,bot,bot,bot,bot,bot,bot,bot,bot,bot,bot,bot,bot,(fun as M Q Z=>Z4 (as++[.int 100]) M Q Z),bot],[.cls t.a_JumpError,.cls t.a_ByNought,.cls t.a_TooGreat,.int 40]⟩ FN GN BN 17:=P15.addD 31 (x:="run_graph") rfl F14 (Nat.le_refl _) (Nat.le_refl _) T.g_run_graph T.k_run_graph eb14 (dD:=[.int 100]) (dvs:=[.int 100]) (.cons ⟨_,rfl⟩ .nil) (fun w _=>RDs.cons (Zf.mpr rfl) (RDs.nil w))
 have F15:=fn0 P15d T.F_landings Ge Ce (sp:=Zi) (by rintro _ _ _ _ ⟨_,_,_,_,_,rfl,_⟩;rfl) Ew
 have P16:Prg P w K mg base ⟨K,[Zj t.a_ByNought qdiv,Zj t.a_ByNought qmod,Zx t.a_ByNought,Zm,Zl,Z8 t.a_ByNought,Z7,Y6,Yd,Zk,Z9,Zn,Zo t.a_ByNought,Zh,Z4,Zi,bot,bot,bot,bot,bot,bot,bot,bot,bot,bot,bot,bot,bot,bot,bot,(fun as M Q Z=>Z4 (as++[.int 100]) M Q Z),bot],[.cls t.a_JumpError,.cls t.a_ByNought,.cls t.a_TooGreat,.int 40]⟩ FN GN BN 18:=P15d.add 15 (x:="landings") rfl F15 (Nat.le_refl _) (Nat.le_succ _) T.g_landings T.k_landings T.b_landings
 have F16:=fn0 P16 T.F_linked Z62 Zd9 (sp:=Zw) (by rintro _ _ _ _ ⟨_,_,rfl,_⟩;rfl) (Zh6 rfl)
 have P17:Prg P w K mg base ⟨K,[Zj t.a_ByNought qdiv,Zj t.a_ByNought qmod,Zx t.a_ByNought,Zm,Zl,Z8 t.a_ByNought,Z7,Y6,Yd,Zk,Z9,Zn,Zo t.a_ByNought,Zh,Z4,Zi,Zw,bot,bot,bot,bot,bot,bot,bot,bot,bot,bot,bot,bot,bot,bot,(fun as M Q Z=>Z4 (as++[.int 100]) M Q Z),bot],[.cls t.a_JumpError,.cls t.a_ByNought,.cls t.a_TooGreat,.int 40]⟩ FN GN BN 19:=P16.add 16 (x:="linked") rfl F16 (Nat.le_refl _) (Nat.le_succ _) T.g_linked T.k_linked T.b_linked
 have F17:=fn1 P17 (PrgR.one rfl T.mk_TooGreat (T.i_ok _ _ _ _) (by decide) T.i_b1 T.i_b0 T.set_TooGreat) T.F_graph_of G1 Cu (sp:=Y3 t.a_TooGreat) (by rintro _ _ _ _ ⟨_,_,rfl,_⟩;rfl) (Cn rfl rfl rfl rfl rfl rfl)
 have P18:Prg P w K mg base ⟨K,[Zj t.a_ByNought qdiv,Zj t.a_ByNought qmod,Zx t.a_ByNought,Zm,Zl,Z8 t.a_ByNought,Z7,Y6,Yd,Zk,Z9,Zn,Zo t.a_ByNought,Zh,Z4,Zi,Zw,Y3 t.a_TooGreat,bot,bot,bot,bot,bot,bot,bot,bot,bot,bot,bot,bot,bot,(fun as M Q Z=>Z4 (as++[.int 100]) M Q Z),bot],[.cls t.a_JumpError,.cls t.a_ByNought,.cls t.a_TooGreat,.int 40]⟩ FN GN BN 20:=P17.add 17 (x:="graph_of") rfl F17 (Nat.le_refl _) (Nat.le_succ _) T.g_graph_of T.k_graph_of T.b_graph_of
 have F18:=fn0 P18 T.F_run Y29 Y61 (sp:=Yq) (by rintro _ _ _ _ ⟨_,_,_,_,_,rfl,_⟩;rfl) (Y70 rfl rfl)
 have P19:Prg P w K mg base ⟨K,[Zj t.a_ByNought qdiv,Zj t.a_ByNought qmod,Zx t.a_ByNought,Zm,Zl,Z8 t.a_ByNought,Z7,Y6,Yd,Zk,Z9,Zn,Zo t.a_ByNought,Zh,Z4,Zi,Zw,Y3 t.a_TooGreat,Yq,bot,bot,bot,bot,bot,bot,bot,bot,bot,bot,bot,bot,(fun as M Q Z=>Z4 (as++[.int 100]) M Q Z),bot],[.cls t.a_JumpError,.cls t.a_ByNought,.cls t.a_TooGreat,.int 40]⟩ FN GN BN 21:=P18.add 18 (x:="run") rfl F18 (Nat.le_refl _) (Nat.le_succ _) T.g_run T.k_run T.b_run
 obtain⟨tk18,eb18⟩:=T.e_run
 have P19d:Prg P w K mg base ⟨K,[Zj t.a_ByNought qdiv,Zj t.a_ByNought qmod,Zx t.a_ByNought,Zm,Zl,Z8 t.a_ByNought,Z7,Y6,Yd,Zk,Z9,Zn,Zo t.a_ByNought,Zh,Z4,Zi,Zw,Y3 t.a_TooGreat,Yq,bot,bot,bot,bot,bot,bot,bot,bot,bot,bot,bot,bot,(fun as M Q Z=>Z4 (as++[.int 100]) M Q Z),(fun as M Q Z=>Yq (as++[.int 100]) M Q Z)],[.cls t.a_JumpError,.cls t.a_ByNought,.cls t.a_TooGreat,.int 40]⟩ FN GN BN 21:=P19.addD 32 (x:="run") rfl F18 (Nat.le_refl _) (Nat.le_refl _) T.g_run T.k_run eb18 (dD:=[.int 100]) (dvs:=[.int 100]) (.cons ⟨_,rfl⟩ .nil) (fun w _=>RDs.cons (Zf.mpr rfl) (RDs.nil w))
 have F19:=fn0 P19d T.F_Ldraws Z55 Zf2 (sp:=Yr) (by rintro _ _ _ _ ⟨_,_,rfl,_⟩;rfl) Zf1
 have P20:Prg P w K mg base ⟨K,[Zj t.a_ByNought qdiv,Zj t.a_ByNought qmod,Zx t.a_ByNought,Zm,Zl,Z8 t.a_ByNought,Z7,Y6,Yd,Zk,Z9,Zn,Zo t.a_ByNought,Zh,Z4,Zi,Zw,Y3 t.a_TooGreat,Yq,Yr,bot,bot,bot,bot,bot,bot,bot,bot,bot,bot,bot,(fun as M Q Z=>Z4 (as++[.int 100]) M Q Z),(fun as M Q Z=>Yq (as++[.int 100]) M Q Z)],[.cls t.a_JumpError,.cls t.a_ByNought,.cls t.a_TooGreat,.int 40]⟩ FN GN BN 22:=P19d.add 19 (x:="_law_draws") rfl F19 (Nat.le_refl _) (Nat.le_succ _) T.g_Ldraws T.k_Ldraws T.b_Ldraws
 have F20:=fn0 P20 T.F_Lnext Zb1 Zs6 (sp:=Yx) (by rintro _ _ _ _ ⟨_,rfl,_⟩;rfl) Zn4
 have P21:Prg P w K mg base ⟨K,[Zj t.a_ByNought qdiv,Zj t.a_ByNought qmod,Zx t.a_ByNought,Zm,Zl,Z8 t.a_ByNought,Z7,Y6,Yd,Zk,Z9,Zn,Zo t.a_ByNought,Zh,Z4,Zi,Zw,Y3 t.a_TooGreat,Yq,Yr,Yx,bot,bot,bot,bot,bot,bot,bot,bot,bot,bot,(fun as M Q Z=>Z4 (as++[.int 100]) M Q Z),(fun as M Q Z=>Yq (as++[.int 100]) M Q Z)],[.cls t.a_JumpError,.cls t.a_ByNought,.cls t.a_TooGreat,.int 40]⟩ FN GN BN 23:=P20.add 20 (x:="_law_next") rfl F20 (Nat.le_refl _) (Nat.le_succ _) T.g_Lnext T.k_Lnext T.b_Lnext
 have F21:=fn0 P21 T.F_Lnames Z73 Zi4 (sp:=X9) (by rintro _ _ _ _ ⟨_,rfl,_⟩;rfl) Zc5
 have P22:Prg P w K mg base ⟨K,[Zj t.a_ByNought qdiv,Zj t.a_ByNought qmod,Zx t.a_ByNought,Zm,Zl,Z8 t.a_ByNought,Z7,Y6,Yd,Zk,Z9,Zn,Zo t.a_ByNought,Zh,Z4,Zi,Zw,Y3 t.a_TooGreat,Yq,Yr,Yx,X9,bot,bot,bot,bot,bot,bot,bot,bot,bot,(fun as M Q Z=>Z4 (as++[.int 100]) M Q Z),(fun as M Q Z=>Yq (as++[.int 100]) M Q Z)],[.cls t.a_JumpError,.cls t.a_ByNought,.cls t.a_TooGreat,.int 40]⟩ FN GN BN 24:=P21.add 21 (x:="_law_names") rfl F21 (Nat.le_refl _) (Nat.le_succ _) T.g_Lnames T.k_Lnames T.b_Lnames
 have F22:=fn0 P22 T.F_Lgreat Bv Zf6 (sp:=Xb) (by rintro _ _ _ _ ⟨_,rfl,_⟩;rfl) (Zb0 rfl)
 have P23:Prg P w K mg base ⟨K,[Zj t.a_ByNought qdiv,Zj t.a_ByNought qmod,Zx t.a_ByNought,Zm,Zl,Z8 t.a_ByNought,Z7,Y6,Yd,Zk,Z9,Zn,Zo t.a_ByNought,Zh,Z4,Zi,Zw,Y3 t.a_TooGreat,Yq,Yr,Yx,X9,Xb,bot,bot,bot,bot,bot,bot,bot,bot,(fun as M Q Z=>Z4 (as++[.int 100]) M Q Z),(fun as M Q Z=>Yq (as++[.int 100]) M Q Z)],[.cls t.a_JumpError,.cls t.a_ByNought,.cls t.a_TooGreat,.int 40]⟩ FN GN BN 25:=P22.add 22 (x:="_law_great") rfl F22 (Nat.le_refl _) (Nat.le_succ _) T.g_Lgreat T.k_Lgreat T.b_Lgreat
 have F23:=fn0 P23 T.F_Loperand Jw C1 (sp:=Yl) (by rintro _ _ _ _ ⟨_,_,rfl,_⟩;rfl) (Bg rfl rfl)
 have P24:Prg P w K mg base ⟨K,[Zj t.a_ByNought qdiv,Zj t.a_ByNought qmod,Zx t.a_ByNought,Zm,Zl,Z8 t.a_ByNought,Z7,Y6,Yd,Zk,Z9,Zn,Zo t.a_ByNought,Zh,Z4,Zi,Zw,Y3 t.a_TooGreat,Yq,Yr,Yx,X9,Xb,Yl,bot,bot,bot,bot,bot,bot,bot,(fun as M Q Z=>Z4 (as++[.int 100]) M Q Z),(fun as M Q Z=>Yq (as++[.int 100]) M Q Z)],[.cls t.a_JumpError,.cls t.a_ByNought,.cls t.a_TooGreat,.int 40]⟩ FN GN BN 26:=P23.add 23 (x:="_law_operand") rfl F23 (Nat.le_refl _) (Nat.le_succ _) T.g_Loperand T.k_Loperand T.b_Loperand
 have F24:=fn0 P24 T.F_Lrow Zm3 Zx7 (sp:=Sq) (by rintro _ _ _ _ ⟨_,_,_,_,_,rfl,_⟩;rfl) (Zy6 rfl rfl)
 have P25:Prg P w K mg base ⟨K,[Zj t.a_ByNought qdiv,Zj t.a_ByNought qmod,Zx t.a_ByNought,Zm,Zl,Z8 t.a_ByNought,Z7,Y6,Yd,Zk,Z9,Zn,Zo t.a_ByNought,Zh,Z4,Zi,Zw,Y3 t.a_TooGreat,Yq,Yr,Yx,X9,Xb,Yl,Sq,bot,bot,bot,bot,bot,bot,(fun as M Q Z=>Z4 (as++[.int 100]) M Q Z),(fun as M Q Z=>Yq (as++[.int 100]) M Q Z)],[.cls t.a_JumpError,.cls t.a_ByNought,.cls t.a_TooGreat,.int 40]⟩ FN GN BN 27:=P24.add 24 (x:="_law_row") rfl F24 (Nat.le_refl _) (Nat.le_succ _) T.g_Lrow T.k_Lrow T.b_Lrow
 have F25:=fn0 P25 T.F_Lrows Zh3 Zq4 (sp:=Vk) (by rintro _ _ _ _ ⟨_,_,rfl,_⟩;rfl) (Zs5 rfl rfl)
 have P26:Prg P w K mg base ⟨K,[Zj t.a_ByNought qdiv,Zj t.a_ByNought qmod,Zx t.a_ByNought,Zm,Zl,Z8 t.a_ByNought,Z7,Y6,Yd,Zk,Z9,Zn,Zo t.a_ByNought,Zh,Z4,Zi,Zw,Y3 t.a_TooGreat,Yq,Yr,Yx,X9,Xb,Yl,Sq,Vk,bot,bot,bot,bot,bot,(fun as M Q Z=>Z4 (as++[.int 100]) M Q Z),(fun as M Q Z=>Yq (as++[.int 100]) M Q Z)],[.cls t.a_JumpError,.cls t.a_ByNought,.cls t.a_TooGreat,.int 40]⟩ FN GN BN 28:=P25.add 25 (x:="_law_rows") rfl F25 (Nat.le_refl _) (Nat.le_succ _) T.g_Lrows T.k_Lrows T.b_Lrows
 have F26_0:=fn0 P26 T.F_Lalike Rk O3 (sp:=(X8 0)) (by rintro _ _ _ _ ⟨_,_,rfl,_⟩;rfl) Z04
 have P27_0:Prg P w K mg base ⟨K,[Zj t.a_ByNought qdiv,Zj t.a_ByNought qmod,Zx t.a_ByNought,Zm,Zl,Z8 t.a_ByNought,Z7,Y6,Yd,Zk,Z9,Zn,Zo t.a_ByNought,Zh,Z4,Zi,Zw,Y3 t.a_TooGreat,Yq,Yr,Yx,X9,Xb,Yl,Sq,Vk,(X8 0),bot,bot,bot,bot,(fun as M Q Z=>Z4 (as++[.int 100]) M Q Z),(fun as M Q Z=>Yq (as++[.int 100]) M Q Z)],[.cls t.a_JumpError,.cls t.a_ByNought,.cls t.a_TooGreat,.int 40]⟩ FN GN BN 29:=P26.add 26 (x:="_law_alike") rfl F26_0 (Nat.le_refl _) (Nat.le_succ _) T.g_Lalike T.k_Lalike T.b_Lalike
 have F26_1:=fn0 P27_0 T.F_Lalike Rk O3 (sp:=(X8 1)) (by rintro _ _ _ _ ⟨_,_,rfl,_⟩;rfl) (Nw rfl)
 have P27_1:Prg P w K mg base ⟨K,[Zj t.a_ByNought qdiv,Zj t.a_ByNought qmod,Zx t.a_ByNought,Zm,Zl,Z8 t.a_ByNought,Z7,Y6,Yd,Zk,Z9,Zn,Zo t.a_ByNought,Zh,Z4,Zi,Zw,Y3 t.a_TooGreat,Yq,Yr,Yx,X9,Xb,Yl,Sq,Vk,(X8 1),bot,bot,bot,bot,(fun as M Q Z=>Z4 (as++[.int 100]) M Q Z),(fun as M Q Z=>Yq (as++[.int 100]) M Q Z)],[.cls t.a_JumpError,.cls t.a_ByNought,.cls t.a_TooGreat,.int 40]⟩ FN GN BN 30:=P27_0.add 26 (x:="_law_alike") rfl F26_1 (Nat.le_refl _) (Nat.le_succ _) T.g_Lalike T.k_Lalike T.b_Lalike
 have F26_2:=fn0 P27_1 T.F_Lalike Rk O3 (sp:=(X8 2)) (by rintro _ _ _ _ ⟨_,_,rfl,_⟩;rfl) (Nw rfl)
 have P27:Prg P w K mg base ⟨K,[Zj t.a_ByNought qdiv,Zj t.a_ByNought qmod,Zx t.a_ByNought,Zm,Zl,Z8 t.a_ByNought,Z7,Y6,Yd,Zk,Z9,Zn,Zo t.a_ByNought,Zh,Z4,Zi,Zw,Y3 t.a_TooGreat,Yq,Yr,Yx,X9,Xb,Yl,Sq,Vk,(X8 2),bot,bot,bot,bot,(fun as M Q Z=>Z4 (as++[.int 100]) M Q Z),(fun as M Q Z=>Yq (as++[.int 100]) M Q Z)],[.cls t.a_JumpError,.cls t.a_ByNought,.cls t.a_TooGreat,.int 40]⟩ FN GN BN 31:=P27_1.add 26 (x:="_law_alike") rfl F26_2 (Nat.le_refl _) (Nat.le_succ _) T.g_Lalike T.k_Lalike T.b_Lalike
 have F27:=fn0 P27 T.F_Lmemory Cj Z95 (sp:=Ve) (by rintro _ _ _ _ ⟨_,_,rfl,_⟩;rfl) (Z51 rfl rfl)
 have P28:Prg P w K mg base ⟨K,[Zj t.a_ByNought qdiv,Zj t.a_ByNought qmod,Zx t.a_ByNought,Zm,Zl,Z8 t.a_ByNought,Z7,Y6,Yd,Zk,Z9,Zn,Zo t.a_ByNought,Zh,Z4,Zi,Zw,Y3 t.a_TooGreat,Yq,Yr,Yx,X9,Xb,Yl,Sq,Vk,(X8 2),Ve,bot,bot,bot,(fun as M Q Z=>Z4 (as++[.int 100]) M Q Z),(fun as M Q Z=>Yq (as++[.int 100]) M Q Z)],[.cls t.a_JumpError,.cls t.a_ByNought,.cls t.a_TooGreat,.int 40]⟩ FN GN BN 32:=P27.add 27 (x:="_law_memory") rfl F27 (Nat.le_refl _) (Nat.le_succ _) T.g_Lmemory T.k_Lmemory T.b_Lmemory
 have F28:=fn0 P28 T.F_Lsides Bo Zd5 (sp:=Rm) (by rintro _ _ _ _ ⟨_,_,rfl,_⟩;rfl) Zd7
 have P29:Prg P w K mg base ⟨K,[Zj t.a_ByNought qdiv,Zj t.a_ByNought qmod,Zx t.a_ByNought,Zm,Zl,Z8 t.a_ByNought,Z7,Y6,Yd,Zk,Z9,Zn,Zo t.a_ByNought,Zh,Z4,Zi,Zw,Y3 t.a_TooGreat,Yq,Yr,Yx,X9,Xb,Yl,Sq,Vk,(X8 2),Ve,Rm,bot,bot,(fun as M Q Z=>Z4 (as++[.int 100]) M Q Z),(fun as M Q Z=>Yq (as++[.int 100]) M Q Z)],[.cls t.a_JumpError,.cls t.a_ByNought,.cls t.a_TooGreat,.int 40]⟩ FN GN BN 33:=P28.add 28 (x:="_law_sides") rfl F28 (Nat.le_refl _) (Nat.le_succ _) T.g_Lsides T.k_Lsides T.b_Lsides
 have F29:=fn0 P29 T.F_Lsame Zd1 Zq2 (sp:=Pe) (by rintro _ _ _ _ ⟨_,_,_,_,_,_,_,rfl,_⟩;rfl) (Zu2 rfl rfl)
 have P30:Prg P w K mg base ⟨K,[Zj t.a_ByNought qdiv,Zj t.a_ByNought qmod,Zx t.a_ByNought,Zm,Zl,Z8 t.a_ByNought,Z7,Y6,Yd,Zk,Z9,Zn,Zo t.a_ByNought,Zh,Z4,Zi,Zw,Y3 t.a_TooGreat,Yq,Yr,Yx,X9,Xb,Yl,Sq,Vk,(X8 2),Ve,Rm,Pe,bot,(fun as M Q Z=>Z4 (as++[.int 100]) M Q Z),(fun as M Q Z=>Yq (as++[.int 100]) M Q Z)],[.cls t.a_JumpError,.cls t.a_ByNought,.cls t.a_TooGreat,.int 40]⟩ FN GN BN 34:=P29.add 29 (x:="_law_same") rfl F29 (Nat.le_refl _) (Nat.le_succ _) T.g_Lsame T.k_Lsame T.b_Lsame
 have F30:=fn0 P30 T.F_law Y12 Y53 (sp:=Ca) (by rintro _ _ _ _ ⟨_,rfl,_⟩;rfl) (Y76 rfl rfl rfl rfl rfl rfl rfl rfl rfl rfl)
 exact F30
theorem Zu4{l:PySem.W.OpenLaw}{w:World}{fa f:Addr}{K:PySem.W.Frag}{mg:Str→Option Value}(hfa:mg "law"=some (.ref fa))(h:∃t:Adr,Tx K mg t∧t.a_law=f∧∀(s:Shared) (v:Value),BindsTo s t.d_law ⟨[v],[]⟩ [("_law_script",v)])
  :∃fd:FuncData,(∀(s:Shared) (v:Value),BindsTo s fd ⟨[v],[]⟩ [("_law_script",v)])∧∀base:Heap,K.In base→base.Ns mainGlobals mg→FnOk l.prog w K mg base (CX1 l.prog w) 35 fa fd ["_law_script"] (spF K Ca):=by
 obtain⟨t,T,e,hb⟩:=h
 have e2:=hfa.symm.trans T.g_law
 cases e2
 exact⟨t.d_law,hb,fun base _ _=>Y32 T⟩
end K16
namespace Hand
open PySem PySem.Spec PyProof.Rows L2 L3 U K16
noncomputable def kf(n:Str)(i:Nat)(dV kV dc pm:Value)(an:Option Addr)(cd ct:Value):Obj:=⟨.type "function",none,.func (PySem.W.fnOf n n (Zg (top i)) (Z5 (top i)) (Z2 (top i)) dV kV dc pm an cd ct),#[]⟩
noncomputable def kg(n:Str)(i:Nat)(m:Str)(t c:Nat):Obj:=kf n i .none .none .none (.str m t) none (.ref c) .none
noncomputable def kc(n:Str)(t:Nat)(l a:Int)(r:Nat)(x y:Int)(z:Nat):Obj:=⟨.type "code",none,.fields #[.str n t,.str n (t+1),.str "/claim/cut.py" (t+2),.int l 0,.int a 0,.int 0 0,.int 0 0,.int 3 0,.ref r,.bool true,.int x 0,.ref (r+1),.none,.ref (r+2),.ref (r+3),.ref (r+4),.int y 0,.int l 0,.str "/claim/cut.py" z],#[]⟩
noncomputable def ke(P:Params)(x:Str)(t:Nat)(v:Value):DictEntry:=⟨PyData.keyHash P x,.str x t,v⟩
noncomputable abbrev kd:Value:= .type "dict"
noncomputable abbrev kR(a:Nat):Value:= .ref a
noncomputable abbrev kS(x:Str)(t:Nat):Value:= .str x t
noncomputable def KH(P:Params):PySem.W.Frag:=(nat_lit 2,⟨.none,none,.dict #[] 0,#[]⟩)::(nat_lit 3,⟨kd,none,.dict #[ke P "__name__" 165 (kS "law_unjump_k16_whole_graph_runs_the_same" 441),ke P "__doc__" 166 .none,ke P "__package__" 167 .none,ke P "__loader__" 168 (.builtin "__main__.__loader__#opaque"),ke P "__spec__" 169 .none,ke P "__annotations__" 170 (kR 6),ke P "__builtins__" 171 (kR 4),ke P "__file__" 173 (kS "/claim/cut.py" 172),ke P "__cached__" 174 .none,ke P "JumpError" 215 (kR 32),ke P "ByNought" 231 (kR 45),ke P "TooGreat" 247 (kR 57),ke P "made" 258 (kR 66),ke P "quotient" 266 (kR 73),ke P "rest" 274 (kR 80),ke P "holds" 283 (kR 87),ke P "worth" 291 (kR 94),ke P "deed_of_sum" 304 (kR 101),ke P "deed_of_test" 316 (kR 108),ke P "ways" 325 (kR 115),ke P "with_ways" 333 (kR 122),ke P "walked" 348 (kR 129),ke P "numbered" 354 (kR 134),ke P "run_graph" 364 (kR 142),ke P "run_from" 379 (kR 149),ke P "deed_of" 387 (kR 156),ke P "behind" 396 (kR 163),ke P "MOST_NODES" 400 (.int 40 399),ke P "graph_of" 406 (kR 168),ke P "linked" 412 (kR 173),ke P "landings" 426 (kR 180),ke P "run" 440 (kR 188),ke P "_law_draws" 456 (kR 195),ke P "_law_next" 463 (kR 202),ke P "_law_names" 471 (kR 209),ke P "_law_great" 479 (kR 216),ke P "_law_operand" 488 (kR 223),ke P "_law_row" 502 (kR 230),ke P "_law_rows" 508 (kR 235),ke P "_law_alike" 517 (kR 242),ke P "_law_memory" 528 (kR 249),ke P "_law_sides" 534 (kR 254),ke P "_law_same" 542 (kR 261),ke P "law" 559 (kR 268)] 44,#[]⟩)::(nat_lit 22,⟨(.type "tuple"),none,.seq #[.none] 0,#[]⟩)::(nat_lit 28,⟨(.type "code"),none,.fields #[(.str "__init__" 201),(.str "JumpError.__init__" 202),(.str "/claim/cut.py" 203),(.int 4 0),(.int 2 0),(.int 0 0),(.int 0 0),(.int 3 0),(.ref 23),(.bool true),(.int 181 0),(.ref 24),.none,(.ref 25),(.ref 26),(.ref 27),(.int 206 0),(.int 4 0),(.str "/claim/cut.py" 207)],#[]⟩)::(nat_lit 29,{cls:=Value.type "function",data:=Data.func {name:=Str.ofString "__init__",qualname:=Str.ofString "JumpError.__init__",params:={posonlyargs:=[],args:=[{arg:=Str.ofString "self",annotation:=none,pos:={line:=4,col:=17,endLine:=4,endCol:=21}},{arg:=Str.ofString "row",annotation:=none,pos:={line:=4,col:=23,endLine:=4,endCol:=26}}],vararg:=none,kwonlyargs:=[],kw_defaults:=[],kwarg:=none,defaults:=[Expr.Constant Const.none 0 {line:=4,col:=27,endLine:=4,endCol:=31}]},body:=FuncBody.stmts [Stmt.Assign [(Expr.Name (Str.ofString "self") {line:=5,col:=8,endLine:=5,endCol:=12}).Attribute (Str.ofString "row") {line:=5,col:=8,endLine:=5,endCol:=16}] (Expr.Name (Str.ofString "row") {line:=5,col:=19,endLine:=5,endCol:=22}) {line:=5,col:=8,endLine:=5,endCol:=22}],scope:={kind:=ScopeKind.function,names:=[(Str.ofString "self",NameKind.local),(Str.ofString "row",NameKind.local)],isGenerator:=false,isCoroutine:=false},globals:=3,closure:=[],defaults:=Value.ref 22,kwdefaults:=Value.none,pyModule:=Value.str (Str.ofString "unjump.errors") 187,code:=Value.ref 28}})::(nat_lit 31,⟨kd,none,.dict #[ke P "__module__" 196 (kS "unjump.errors" 187),ke P "__firstlineno__" 200 (.int 2 199),ke P "__init__" 208 (kR 29),ke P "__static_attributes__" 210 (kR 30),ke P "__weakref__" 212 (kR 33),ke P "__doc__" 213 .none] 3,#[]⟩)::(nat_lit 32,{cls:=Value.type "type",data:=Data.cls {name:=Str.ofString "JumpError",bases:=[Value.type "ValueError"],mro:=[Value.ref 32,Value.type "ValueError",Value.type "Exception",Value.type "BaseException",Value.type "object"],ns:=31,qualname:=Str.ofString "JumpError",subclasses:=[Value.ref 45,Value.ref 57]},slots:=#[some (Value.ref 15),none,some (Value.str (Str.ofString "JumpError") 189),some (Value.str (Str.ofString "JumpError") 197),some (Value.builtin "ValueError.__new__"),some (Value.bool true)]})::(nat_lit 44,⟨kd,none,.dict #[ke P "__module__" 223 (kS "unjump.errors" 187),ke P "__firstlineno__" 227 (.int 6 226),ke P "__static_attributes__" 228 (kR 43),ke P "__doc__" 229 .none] 2,#[]⟩)::(nat_lit 45,{cls:=Value.type "type",data:=Data.cls {name:=Str.ofString "ByNought",bases:=[Value.ref 32],mro:=[Value.ref 45,Value.ref 32,Value.type "ValueError",Value.type "Exception",Value.type "BaseException",Value.type "object"],ns:=44,qualname:=Str.ofString "ByNought"},slots:=#[some (Value.ref 36),none,some (Value.str (Str.ofString "ByNought") 216),some (Value.str (Str.ofString "ByNought") 224),some (Value.builtin "ValueError.__new__"),some (Value.bool true)]})::(nat_lit 56,⟨kd,none,.dict #[ke P "__module__" 239 (kS "unjump.errors" 187),ke P "__firstlineno__" 243 (.int 8 242),ke P "__static_attributes__" 244 (kR 55),ke P "__doc__" 245 .none] 2,#[]⟩)::(nat_lit 57,{cls:=Value.type "type",data:=Data.cls {name:=Str.ofString "TooGreat",bases:=[Value.ref 32],mro:=[Value.ref 57,Value.ref 32,Value.type "ValueError",Value.type "Exception",Value.type "BaseException",Value.type "object"],ns:=56,qualname:=Str.ofString "TooGreat"},slots:=#[some (Value.ref 48),none,some (Value.str (Str.ofString "TooGreat") 232),some (Value.str (Str.ofString "TooGreat") 240),some (Value.builtin "ValueError.__new__"),some (Value.bool true)]})::(nat_lit 65,kc "made" 250 11 3 60 181 256 257)::(nat_lit 66,kg "made" 5 "unjump.sums" 248 65)::(nat_lit 72,kc "quotient" 259 23 2 67 181 264 265)::(nat_lit 73,kg "quotient" 6 "unjump.sums" 248 72)::(nat_lit 79,kc "rest" 267 27 2 74 181 272 273)::(nat_lit 80,kg "rest" 7 "unjump.sums" 248 79)::(nat_lit 86,kc "holds" 275 31 3 81 181 281 282)::(nat_lit 87,kg "holds" 8 "unjump.sums" 248 86)::(nat_lit 93,kc "worth" 284 35 2 88 181 289 290)::(nat_lit 94,kg "worth" 9 "unjump.sums" 248 93)::(nat_lit 100,kc "deed_of_sum" 292 39 5 95 181 302 303)::(nat_lit 101,kg "deed_of_sum" 10 "unjump.sums" 248 100)::(nat_lit 107,kc "deed_of_test" 305 43 4 102 181 314 315)::(nat_lit 108,kg "deed_of_test" 11 "unjump.sums" 248 107)::(nat_lit 114,kc "ways" 319 48 1 109 181 323 324)::(nat_lit 115,kg "ways" 13 "unjump.nodes" 317 114)::(nat_lit 121,kc "with_ways" 326 54 2 116 181 331 332)::(nat_lit 122,kg "with_ways" 14 "unjump.nodes" 317 121)::(nat_lit 128,kc "walked" 334 60 2 123 181 346 347)::(nat_lit 129,kg "walked" 15 "unjump.nodes" 317 128)::(nat_lit 133,⟨(.type "code"),none,.fields #[(.str "numbered" 349),(.str "numbered" 350),(.str "/claim/cut.py" 351),(.int 80 0),(.int 2 0),(.int 0 0),(.int 0 0),(.int 3 0),(.ref 130),(.bool true),(.int 181 0),(.ref 131),.none,.none,.none,(.ref 132),(.int 352 0),(.int 80 0),(.str "/claim/cut.py" 353)],#[]⟩)::(nat_lit 134,kg "numbered" 16 "unjump.nodes" 317 133)::(nat_lit 135,⟨(.type "tuple"),none,.seq #[(.int 100 355)] 0,#[]⟩)::(nat_lit 141,kc "run_graph" 356 83 3 136 181 362 363)::(nat_lit 142,kf "run_graph" 17 (.ref 135) .none .none (.str "unjump.nodes" 317) none (.ref 141) .none)::(nat_lit 148,kc "run_from" 365 85 4 143 181 377 378)::(nat_lit 149,kg "run_from" 18 "unjump.nodes" 317 148)::(nat_lit 155,kc "deed_of" 380 98 2 150 181 385 386)::(nat_lit 156,kg "deed_of" 19 "unjump.nodes" 317 155)::(nat_lit 162,kc "behind" 388 102 3 157 181 394 395)::(nat_lit 163,kg "behind" 20 "unjump.nodes" 317 162)::(nat_lit 167,⟨(.type "code"),none,.fields #[(.str "graph_of" 401),(.str "graph_of" 402),(.str "/claim/cut.py" 403),(.int 109 0),(.int 1 0),(.int 0 0),(.int 0 0),(.int 3 0),(.ref 164),(.bool true),(.int 181 0),(.ref 165),.none,.none,.none,(.ref 166),(.int 404 0),(.int 109 0),(.str "/claim/cut.py" 405)],#[]⟩)::(nat_lit 168,kg "graph_of" 23 "unjump.graphs" 397 167)::(nat_lit 172,⟨(.type "code"),none,.fields #[(.str "linked" 407),(.str "linked" 408),(.str "/claim/cut.py" 409),(.int 115 0),(.int 1 0),(.int 0 0),(.int 0 0),(.int 3 0),(.ref 169),(.bool true),(.int 181 0),(.ref 170),.none,.none,.none,(.ref 171),(.int 410 0),(.int 115 0),(.str "/claim/cut.py" 411)],#[]⟩)::(nat_lit 173,kg "linked" 24 "unjump.graphs" 397 172)::(nat_lit 179,kc "landings" 413 129 2 174 181 424 425)::(nat_lit 180,kg "landings" 25 "unjump.graphs" 397 179)::(nat_lit 181,⟨(.type "tuple"),none,.seq #[(.int 100 429)] 0,#[]⟩)::(nat_lit 187,kc "run" 430 143 3 182 181 438 439)::(nat_lit 188,kf "run" 27 (.ref 181) .none .none (.str "unjump.running" 427) none (.ref 187) .none)::(nat_lit 194,kc "_law_draws" 443 147 1 189 181 454 455)::(nat_lit 195,kg "_law_draws" 29 "law_unjump_k16_whole_graph_runs_the_same" 441 194)::(nat_lit 201,kc "_law_next" 457 164 1 196 181 461 462)::(nat_lit 202,kg "_law_next" 30 "law_unjump_k16_whole_graph_runs_the_same" 441 201)::(nat_lit 208,kc "_law_names" 464 168 1 203 181 469 470)::(nat_lit 209,kg "_law_names" 31 "law_unjump_k16_whole_graph_runs_the_same" 441 208)::(nat_lit 215,kc "_law_great" 472 172 1 210 181 477 478)::(nat_lit 216,kg "_law_great" 32 "law_unjump_k16_whole_graph_runs_the_same" 441 215)::(nat_lit 222,kc "_law_operand" 480 175 2 217 181 486 487)::(nat_lit 223,kg "_law_operand" 33 "law_unjump_k16_whole_graph_runs_the_same" 441 222)::(nat_lit 229,kc "_law_row" 489 182 4 224 181 500 501)::(nat_lit 230,kg "_law_row" 34 "law_unjump_k16_whole_graph_runs_the_same" 441 229)::(nat_lit 234,⟨(.type "code"),none,.fields #[(.str "_law_rows" 503),(.str "_law_rows" 504),(.str "/claim/cut.py" 505),(.int 195 0),(.int 3 0),(.int 0 0),(.int 0 0),(.int 3 0),(.ref 231),(.bool true),(.int 181 0),(.ref 232),.none,.none,.none,(.ref 233),(.int 506 0),(.int 195 0),(.str "/claim/cut.py" 507)],#[]⟩)::(nat_lit 235,kg "_law_rows" 35 "law_unjump_k16_whole_graph_runs_the_same" 441 234)::(nat_lit 241,kc "_law_alike" 509 207 2 236 181 515 516)::(nat_lit 242,kg "_law_alike" 36 "law_unjump_k16_whole_graph_runs_the_same" 441 241)::(nat_lit 248,kc "_law_memory" 518 227 2 243 181 526 527)::(nat_lit 249,kg "_law_memory" 37 "law_unjump_k16_whole_graph_runs_the_same" 441 248)::(nat_lit 253,⟨(.type "code"),none,.fields #[(.str "_law_sides" 529),(.str "_law_sides" 530),(.str "/claim/cut.py" 531),(.int 236 0),(.int 1 0),(.int 0 0),(.int 0 0),(.int 3 0),(.ref 250),(.bool true),(.int 181 0),(.ref 251),.none,.none,.none,(.ref 252),(.int 532 0),(.int 236 0),(.str "/claim/cut.py" 533)],#[]⟩)::(nat_lit 254,kg "_law_sides" 38 "law_unjump_k16_whole_graph_runs_the_same" 441 253)::(nat_lit 260,kc "_law_same" 535 238 2 255 181 540 541)::(nat_lit 261,kg "_law_same" 39 "law_unjump_k16_whole_graph_runs_the_same" 441 260)::(nat_lit 267,kc "law" 543 244 1 262 181 557 558)::(nat_lit 268,kg "law" 40 "law_unjump_k16_whole_graph_runs_the_same" 441 267)::[]
noncomputable def qH:Program:={PySem.Challenge.pw_unjump_k16_whole_graph_runs_the_same with main:={PySem.Challenge.pw_unjump_k16_whole_graph_runs_the_same.main with body:=[top 40]}}
noncomputable def lH:List Str:="JumpError"::"ByNought"::"TooGreat"::"made"::"quotient"::"rest"::"holds"::"worth"::"deed_of_sum"::"deed_of_test"::"ways"::"with_ways"::"walked"::"numbered"::"run_graph"::"run_from"::"deed_of"::"behind"::"MOST_NODES"::"graph_of"::"linked"::"landings"::"run"::"_law_draws"::"_law_next"::"_law_names"::"_law_great"::"_law_operand"::"_law_row"::"_law_rows"::"_law_alike"::"_law_memory"::"_law_sides"::"_law_same"::[]
noncomputable def aH:List Addr:=2::3::22::28::29::31::32::44::45::56::57::65::66::72::73::79::80::86::87::93::94::100::101::107::108::114::115::121::122::128::129::133::134::135::141::142::148::149::155::156::162::163::167::168::172::173::179::180::181::187::188::194::195::201::202::208::209::215::216::222::223::229::230::234::235::241::242::248::249::253::254::260::261::267::268::[]
theorem eH(P:Params):aH=(KH P).map (·.1):=by kernel_rfl
set_option maxHeartbeats 0 in
theorem hlH:PySem.W.LeftO PySem.Challenge.pw_unjump_k16_whole_graph_runs_the_same qH lH (fun s=>PySem.W.xlAt qH [] s&&PySem.W.recOk [] s) (PySem.W.Hook.obs (PySem.W.kHook KH aH eH)) (PySem.W.Hook.val (PySem.W.kHook KH aH eH)) 3490:=by intro w;kernel_rfl
end Hand
open PySem PySem.W PyProof.Rows
set_option maxRecDepth 100000 in
set_option maxHeartbeats 0 in
theorem PySem.Challenge.cw_unjump_k16_whole_graph_runs_the_same_holds : PySem.Challenge.rw_unjump_k16_whole_graph_runs_the_same.Holds := by
 w_on;o_law;refine holds_open (q:=Hand.qH) (loose:=Hand.lH) (Xt:=fun s=>xlAt Hand.qH [] s&&recOk [] s) (XP:=XL Hand.qH []) (Yf:=Hook.obs (kHook Hand.KH Hand.aH Hand.eH)) (Ya:=Hook.val (kHook Hand.KH Hand.aH Hand.eH)) (YP:=Hook.says (kHook Hand.KH Hand.aH Hand.eH)) (N:=3490) Hand.hlH (Hook.of _) (Hook.keeps _) (fun s e=>xl_of s (Bool.and_eq_true_iff.mp e).1) XL.keeps (by rfl) (by rfl) (by rfl) (fun s e=>recFacts_of (Bool.and_eq_true_iff.mp e).2) (by rfl) (by first | assumption | decide+kernel) (by decide+kernel) ⟨rfl,rfl,rfl,rfl,rfl,by decide+kernel⟩ ?hw ?hc;(case hw=>w_witness2)
 k_fill
 refine U.Ze6 (l:=PySem.Challenge.rw_unjump_k16_whole_graph_runs_the_same) (k:=35) (x:="_law_script") rfl rfl ⟨rfl,by decide,by decide⟩ (fun w h Y=>PySem.W.kIn_of Y) ?F
 case F=>
  intro w mg fa h KX G hmg
  refine' K16.Zu4 hmg (K16.Y75 KX G ?a0 ?l0 ?c0 ?k0 ?a1 ?l1 ?c1 ?k1 ?a2 ?l2 ?c2 ?k2 ?a3 ?l3 ?c3 ?k3 ?a4 ?l4 ?c4 ?k4 ?a5 ?l5 ?c5 ?k5 ?a6 ?l6 ?c6 ?k6 ?a7 ?l7 ?c7 ?k7 ?a8 ?l8 ?c8 ?k8 ?a9 ?l9 ?c9 ?k9 ?a10 ?l10 ?c10 ?k10 ?a11 ?l11 ?c11 ?k11 ?a12 ?l12 ?c12 ?k12 ?a13 ?l13 ?c13 ?k13 ?a14 ?l14 ?c14 ?k14 ?a15 ?l15 ?c15 ?k15 ?a16 ?l16 ?c16 ?k16 ?a17 ?l17 ?c17 ?k17 ?a18 ?l18 ?c18 ?k18 ?a19 ?l19 ?c19 ?k19 ?a20 ?l20 ?c20 ?k20 ?a21 ?l21 ?c21 ?k21 ?a22 ?l22 ?c22 ?k22 ?a23 ?l23 ?c23 ?k23 ?a24 ?l24 ?c24 ?k24 ?a25 ?l25 ?c25 ?k25 ?a26 ?l26 ?c26 ?k26 ?a27 ?l27 ?c27 ?k27 ?a28 ?l28 ?c28 ?k28 ?a29 ?l29 ?c29 ?k29 ?a30 ?l30 ?c30 ?k30 ?z0 ?z1 ?z2 ?z3 ?z4 ?z5 ?z6 ?z7 ?z8 ?z9 ?z10 ?z11 ?z12 ?n0 ?n1 ?n2 ?xl0 ?xa0 ?xb0 ?xc0 ?xd0 ?xe0 ?xf0 ?xg0 ?xh0 ?xi0 ?xj0 ?xk0 ?xm0 ?xn0 ?xo0 ?y0_0 ?y0_1 ?y0_2 ?y0 ?xl1 ?xa1 ?xb1 ?xc1 ?xd1 ?xe1 ?xf1 ?xg1 ?xh1 ?xi1 ?xj1 ?xk1 ?xm1 ?xn1 ?xo1 ?y1_0 ?y1_1 ?y1_2 ?y1 ?w0 ?w1 ?w2 ?w3 ?w4 ?il ?ic ?it ?dl14 ?dl18 ?q0)
  (case a0=>k_is);(case l0=>k_is);(case c0=>k_is);(case k0=>k_is)
  (case a1=>k_is);(case l1=>k_is);(case c1=>k_is);(case k1=>k_is)
  (case a2=>k_is);(case l2=>k_is);(case c2=>k_is);(case k2=>k_is)
  (case a3=>k_is);(case l3=>k_is);(case c3=>k_is);(case k3=>k_is)
  (case a4=>k_is);(case l4=>k_is);(case c4=>k_is);(case k4=>k_is)
  (case a5=>k_is);(case l5=>k_is);(case c5=>k_is);(case k5=>k_is)
  (case a6=>k_is);(case l6=>k_is);(case c6=>k_is);(case k6=>k_is)
  (case a7=>k_is);(case l7=>k_is);(case c7=>k_is);(case k7=>k_is)
  (case a8=>k_is);(case l8=>k_is);(case c8=>k_is);(case k8=>k_is)
  (case a9=>k_is);(case l9=>k_is);(case c9=>k_is);(case k9=>k_is)
  (case a10=>k_is);(case l10=>k_is);(case c10=>k_is);(case k10=>k_is)
  (case a11=>k_is);(case l11=>k_is);(case c11=>k_is);(case k11=>k_is)
  (case a12=>k_is);(case l12=>k_is);(case c12=>k_is);(case k12=>k_is)
  (case a13=>k_is);(case l13=>k_is);(case c13=>k_is);(case k13=>k_is)
  (case a14=>k_is);(case l14=>k_is);(case c14=>k_is);(case k14=>k_is)
  (case a15=>k_is);(case l15=>k_is);(case c15=>k_is);(case k15=>k_is)
  (case a16=>k_is);(case l16=>k_is);(case c16=>k_is);(case k16=>k_is)
  (case a17=>k_is);(case l17=>k_is);(case c17=>k_is);(case k17=>k_is)
  (case a18=>k_is);(case l18=>k_is);(case c18=>k_is);(case k18=>k_is)
  (case a19=>k_is);(case l19=>k_is);(case c19=>k_is);(case k19=>k_is)
  (case a20=>k_is);(case l20=>k_is);(case c20=>k_is);(case k20=>k_is)
  (case a21=>k_is);(case l21=>k_is);(case c21=>k_is);(case k21=>k_is)
  (case a22=>k_is);(case l22=>k_is);(case c22=>k_is);(case k22=>k_is)
  (case a23=>k_is);(case l23=>k_is);(case c23=>k_is);(case k23=>k_is)
  (case a24=>k_is);(case l24=>k_is);(case c24=>k_is);(case k24=>k_is)
  (case a25=>k_is);(case l25=>k_is);(case c25=>k_is);(case k25=>k_is)
  (case a26=>k_is);(case l26=>k_is);(case c26=>k_is);(case k26=>k_is)
  (case a27=>k_is);(case l27=>k_is);(case c27=>k_is);(case k27=>k_is)
  (case a28=>k_is);(case l28=>k_is);(case c28=>k_is);(case k28=>k_is)
  (case a29=>k_is);(case l29=>k_is);(case c29=>k_is);(case k29=>k_is)
  (case a30=>k_is);(case l30=>k_is);(case c30=>k_is);(case k30=>k_is)
  (case z0=>k_is);(case z1=>k_is);(case z2=>k_is);(case z3=>k_is);(case z4=>k_is);(case z5=>k_is);(case z6=>k_is);(case z7=>k_is);(case z8=>k_is);(case z9=>k_is);(case z10=>k_is);(case z11=>k_is);(case z12=>k_is)
  (case n0=>k_is);(case n1=>k_is);(case n2=>k_is);(case xl0=>k_is);(case xa0=>k_is);(case xb0=>k_is);(case xc0=>k_is);(case xd0=>k_is);(case xe0=>k_is);(case xf0=>k_is);(case xg0=>k_is);(case xh0=>k_is);(case xi0=>k_is);(case xj0=>k_is);(case xk0=>k_is);(case xm0=>k_is);(case xn0=>k_is);(case xo0=>k_is);(case y0_0=>kernel_rfl);(case y0_1=>kernel_rfl);(case y0_2=>kernel_rfl);(case y0=>kernel_rfl);(case xl1=>k_is);(case xa1=>k_is);(case xb1=>k_is);(case xc1=>k_is);(case xd1=>k_is);(case xe1=>k_is);(case xf1=>k_is);(case xg1=>k_is);(case xh1=>k_is);(case xi1=>k_is);(case xj1=>k_is);(case xk1=>k_is);(case xm1=>k_is);(case xn1=>k_is);(case xo1=>k_is);(case y1_0=>kernel_rfl);(case y1_1=>kernel_rfl);(case y1_2=>kernel_rfl);(case y1=>kernel_rfl);(case w0=>k_is);(case w1=>k_is);(case w2=>k_is);(case w3=>k_is);(case w4=>k_is);(case il=>k_is);(case ic=>k_is);(case it=>k_is);(case dl14=>k_is);(case dl18=>k_is);(case q0=>k_is)
