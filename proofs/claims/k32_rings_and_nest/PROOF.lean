import PyProof.Rows.All
import Wide.All
import OpenK.AllK
import Wide.FinOn
import Lean
import PyProof.EqAt
import PyProof.EqKinds
import PyProof.TupleCall
import PyProof.CompFree
import PyProof.StationsW
import PyProof.ExcClass3
import PyProof.Commute
import OpenK.KGet
import OpenK.KMeth
import PyProof.ExcArgs
import PyProof.ZipIter
import PyProof.ListNew
import PyProof.EnumMake
import PyProof.EnumStmt
import KE.KRevSl
import PyProof.WalkInts
import PyProof.Rows.MinMaxN
import PyProof.AttrMissHeap
import PyProof.DictList
import PyProof.DictUpdate
import KE.KDictOf
import PyProof.DictWalks
import PyProof.Conv_int_bool
import PyProof.Rows.SetFrom
import PyProof.SetRoads
import PyProof.ForAny
import KE.KDictSum
import KE.KLam
import KE.KMinKey
import KE.KNestM
import PyProof.Rows.SortWalk
import PyProof.TupleKey
import PyProof.FactsAll.tuple_2
import PyProof.WalkInts
import PySem.Challenge.RW_unjump_k32_rings_and_nest
set_option Elab.async false
set_option linter.all false
set_option maxRecDepth 100000
set_option genSizeOf false
set_option compiler.extract_closed false
namespace L2
open PySem PySem.Spec PyProof.Rows
noncomputable abbrev Key:=Sum Int Str
noncomputable def Jt:Key→Value→Bool
 | .inl k,v=>Value.isInt k v
 | .inr x,v=>Value.isStrOf x v
noncomputable def keyH(w:World):Key→Int
 | .inl k=>hashInt k
 | .inr x=>hashStr w x
theorem Zr:∀{k:Key} {v:Value},Jt k v=true→(∃i t,k=Sum.inl i∧v=Value.int i t)∨(∃x t,k=Sum.inr x∧v=Value.str x t)
 | .inl i,v,h=>by
  obtain⟨t,e⟩:=Value.isInt_shape (k:=i) (v:=v) h
  exact .inl ⟨i,t,rfl,e⟩
 | .inr x,v,h=>by
  obtain⟨t,e⟩:=Value.isStrOf_shape (x:=x) (v:=v) h
  exact .inr ⟨x,t,rfl,e⟩
theorem Z59(i:Int)(t:Tok):Jt (.inl i) (.int i t)=true:=by simp[Jt,Value.isInt]
theorem B8(x:Str)(t:Tok):Jt (.inr x) (.str x t)=true:=by simp[Jt,Value.isStrOf]
theorem Zw9(a b:Int):decide ((Sum.inl a:Key)=Sum.inl b)=(a==b):=by
 by_cases e:a=b
 ·subst e;simp
 ·have h:¬(Sum.inl a:Key)=Sum.inl b:=fun q=>e (Sum.inl.inj q)
  rw[decide_eq_false h]
  exact(beq_eq_false_iff_ne.mpr e).symm
theorem Zw5(a b:Str):decide ((Sum.inr a:Key)=Sum.inr b)=decide (a=b):=by
 by_cases e:a=b
 ·subst e;simp
 ·have h:¬(Sum.inr a:Key)=Sum.inr b:=fun q=>e (Sum.inr.inj q)
  rw[decide_eq_false h,decide_eq_false e]
theorem Zz0(a:Int)(b:Str):decide ((Sum.inl a:Key)=Sum.inr b)=false:=decide_eq_false (fun q=>nomatch q)
theorem Y11(a:Str)(b:Int):decide ((Sum.inr a:Key)=Sum.inl b)=false:=decide_eq_false (fun q=>nomatch q)
noncomputable def Zz(prog:Program)(w:World):PySem.KeyKind prog w Key where
 is:=Jt
 hash:=keyH w
 inj:=fun v a b ha hb=>by
  rcases Zr ha with⟨i,t,rfl,rfl⟩ | ⟨x,t,rfl,rfl⟩
  ·rcases Zr hb with⟨j,u,rfl,e⟩ | ⟨y,u,rfl,e⟩
   ·injection e with e1 _;rw[e1]
   ·exact nomatch e
  ·rcases Zr hb with⟨j,u,rfl,e⟩ | ⟨y,u,rfl,e⟩
   ·exact nomatch e
   ·injection e with e1 _;rw[e1]
 byValue:=fun k v h=>by
  rcases Zr h with⟨i,t,rfl,rfl⟩ | ⟨x,t,rfl,rfl⟩<;>rfl
 pyHash:=fun hv h=>by
  rcases Zr hv with⟨i,t,rfl,rfl⟩ | ⟨x,t,rfl,rfl⟩
  ·exact wpAny_pyHash_int h
  ·exact wpAny_pyHash_str h
 eqBool:=fun hu hv h=>by
  rcases Zr hu with⟨i,t,rfl,rfl⟩ | ⟨x,t,rfl,rfl⟩
  ·rcases Zr hv with⟨j,u,rfl,rfl⟩ | ⟨y,u,rfl,rfl⟩
   ·rw[Zw9] at h;exact wpAny_eqBool_int h
   ·rw[Zz0] at h;exact SeqAt.EqAt.int_str i t y u _ _ _ _ h
  ·rcases Zr hv with⟨j,u,rfl,rfl⟩ | ⟨y,u,rfl,rfl⟩
   ·rw[Y11] at h;exact SeqAt.EqAt.str_int x t j u _ _ _ _ h
   ·rw[Zw5] at h;exact wpAny_eqBool_str h
 «strs»:=fun k x t v h=>by
  rcases Zr h with⟨i,u,rfl,e⟩ | ⟨y,u,rfl,e⟩
  ·exact nomatch e
  ·injection e with e1 _
   subst e1
   cases v<;>rfl
theorem Ga(prog:Program)(w:World)(i:Int)(t:Tok):(Zz prog w).is (.inl i) (.int i t)=true:=Z59 i t
theorem Gi(prog:Program)(w:World)(x:Str)(t:Tok):(Zz prog w).is (.inr x) (.str x t)=true:=B8 x t
inductive V where
 | non | bl (b:Bool) | int (i:Int) | str (x:Str) | byt (b:Array UInt8) | flt (b:UInt64) | ref (a:Addr) | ty (n:String)
 deriving DecidableEq
def RelV:V→Value→Prop
 | .non,u=>u=Value.none
 | .bl b,u=>u=Value.bool b
 | .int i,u=>∃t,u=Value.int i t
 | .str x,u=>∃t,u=Value.str x t
 | .byt b,u=>∃t,u=Value.bytes b t
 | .flt b,u=>∃t,u=Value.float b t
 | .ref a,u=>u=Value.ref a
 | .ty n,u=>u=Value.type n
abbrev Vals:List V→List Value→Prop:=Paired RelV
theorem Vals.length{xs:List V}{us:List Value}(r:Vals xs us):xs.length=us.length:=Paired.length r
theorem Vals.get:∀{xs:List V} {us:List Value} {i:Nat} {x:V},Vals xs us→xs[i]?=some x→∃u,us[i]?=some u∧RelV x u
 | _,_,_,_,.nil,e=>by simp at e
 | _,_,0,_,.cons r _,e=>by simp at e;subst e;exact⟨_,rfl,r⟩
 | _,_,i+1,x,.cons _ t,e=>by
  obtain⟨u,h1,h2⟩:=Vals.get (i:=i) (x:=x) t (by simpa using e)
  exact⟨u,by simpa using h1,h2⟩
theorem Vals.set{x:V}{u:Value}(r:RelV x u):∀{xs:List V} {us:List Value} (i:Nat),Vals xs us→Vals (xs.set i x) (us.set i u)
 | _,_,_,.nil=> .nil
 | _,_,0,.cons _ t=> .cons r t
 | _,_,i+1,.cons q t=> .cons q (Vals.set r i t)
theorem Vals.append:∀{xs ys:List V} {us ws:List Value},Vals xs us→Vals ys ws→Vals (xs++ys) (us++ws)
 | _,_,_,_,.nil,s=>s
 | _,_,_,_,.cons r t,s=> .cons r (Vals.append t s)
theorem Vals.take:∀{xs:List V} {us:List Value} (n:Nat),Vals xs us→Vals (xs.take n) (us.take n)
 | _,_,0,_=> .nil
 | _,_,_+1,.nil=> .nil
 | _,_,n+1,.cons r t=> .cons r (Vals.take n t)
theorem Vals.drop:∀{xs:List V} {us:List Value} (n:Nat),Vals xs us→Vals (xs.drop n) (us.drop n)
 | _,_,0,r=>r
 | _,_,_+1,.nil=> .nil
 | _,_,n+1,.cons _ t=>Vals.drop n t
def RelO:Option V→Option Value→Prop
 | some v,some u=>RelV v u
 | none,none=>True
 | _,_=>False
def KV{κ:Type}:List (κ×V)→List (κ×Value)→Prop:=Paired fun(p:κ×V) (q:κ×Value)=>p.1=q.1∧RelV p.2 q.2
noncomputable def kV:Key→V
 | .inl i=> .int i
 | .inr x=> .str x
inductive HO where
 | lst (xs:List V)
 | tup (xs:List V)
 | dK (kvs:List (Key×V)) | dT (kvs:List (List Key×V))
 | set (S:Int→Bool) (n:Nat)
 | ins (C dx:Addr) (fs:List (Str×V))
 | own (x:Addr)
 | xd (fs:List (Str×V))
 | met (f x:Addr)
 | rng (lo hi:Int)
 | frz (o:Obj) (u:HO)
 | tbl (ps:Array Value)
 | ext (φ:Heap→Prop)
noncomputable abbrev Hp:=Addr→Option HO
noncomputable def upd(H:Hp)(a:Addr)(o:HO):Hp:=fun b=>if b=a then some o else H b
theorem Zw{H:Hp}{a:Addr}{o:HO}:upd H a o a=some o:=by unfold upd;rw[if_pos rfl]
theorem Zf{H:Hp}{a b:Addr}{o:HO}(h:b≠a):upd H a o b=H b:=by unfold upd;rw[if_neg h]
theorem Y72{H:Hp}{a b:Addr}{o u:HO}(h:H a=some o)(h':H b=some u)(d:o≠u):a≠b:=by
 intro e;subst e;rw[h] at h';exact d (Option.some.inj h')
theorem Zq{H:Hp}{a b:Addr}{o:HO}(h:H a=some o)(h':H b=none):a≠b:=by
 intro e;subst e;rw[h] at h';cases h'
section
variable(P:Program)(w:World)
def X4(H:Hp)(h:Heap)(a:Addr):HO→Prop
 | .lst xs=>xs.length≤sizeLine∧∃(its:List Value) (n:Nat),Vals xs its∧h.get? a=some {cls:= .type "list",data:= .seq its.toArray n}
 | .tup xs=>xs.length≤sizeLine∧∃its:List Value,Vals xs its∧IsTup h a its.toArray
 | .dK kvs=>kvs.length≤sizeLine∧(a==sysModules)=false∧∃vs,KV kvs vs∧h.DictOf (Zz P w) a vs
 | .dT kvs=>kvs.length≤sizeLine∧(a==sysModules)=false∧∃xs:List (List Key×Addr×Value),
   Paired (fun(p:List Key×V) (q:List Key×Addr×Value)=>p.1=q.1∧H q.2.1=some (.tup (p.1.map kV))∧RelV p.2 q.2.2) kvs xs∧
   ∃o es ep,h.get? a=some o∧o.ExactDict∧o.data= .dict es ep∧es.toList=xs.map (entryOfKey (tupleKind (Zz P w)))∧(xs.map (·.1)).Nodup
 | .set S n=>h.SetOf (intKind P w) a S n
 | .ins C dx fs=>H dx=some (.own a)∧fs.length≤1000∧dx≠a∧h.get? a=some (PySem.W.instObj C dx)∧
   ∃mA,h.Ns1 dx mA∧(∀f,RelO (fs.lookup f) (mA f))∧PySem.Within mA (fs.map (·.1))
 | .own _=>∃o,h.get? a=some o
 | .xd fs=>∃mA,h.Ns1 a mA∧∀f,RelO (fs.lookup f) (mA f)
 | .rng lo hi=>∃t u v,h.get? a=some {cls:= .type "range",data:= .fields #[.int lo t,.int hi u,.int 1 v]}
 | .frz o u=>h.get? a=some o∧X4 H h a u
 | .tbl ps=>h.get? a=some {cls:= .none,data:= .fields ps}
 | .met f x=>h.get? a=some (PySem.W.methodObj (.ref f) (.ref x))
 | .ext φ=>φ h∧(∃o,h.get? a=some o)∧∀h1 h2:Heap,φ h1→(∀o,h1.get? a=some o→h2.get? a=some o)→φ h2
def HOk(H:Hp)(h:Heap):Prop:=∀a o,H a=some o→X4 P w H h a o
end
section
variable{P:Program}{w:World}{H H':Hp}{h h':Heap}{a:Addr}{o:HO}
theorem X4.lt(x:X4 P w H h a o):a<h.objs.size:=by
 cases o with
 | lst xs=>obtain⟨_,_,_,_,e⟩:=x;exact Heap.lt_size e
 | tup xs=>obtain⟨_,_,_,p⟩:=x;exact p.lt
 | dK kvs=>obtain⟨_,_,_,_,o,_,_,e,_⟩:=x;exact Heap.lt_size e
 | dT kvs=>obtain⟨_,_,_,_,o,_,_,e,_⟩:=x;exact Heap.lt_size e
 | set S n=>obtain⟨o,_,_,_,e,_⟩:=x;exact Heap.lt_size e
 | ins C dx fs=>obtain⟨_,_,_,e,_⟩:=x;exact Heap.lt_size e
 | own y=>obtain⟨_,e⟩:=x;exact Heap.lt_size e
 | xd fs=>obtain⟨_,⟨_,_,_,e,_⟩,_⟩:=x;exact Heap.lt_size e
 | rng lo hi=>obtain⟨_,_,_,e⟩:=x;exact Heap.lt_size e
 | frz ob u=>obtain⟨e,_⟩:=x;exact Heap.lt_size e
 | tbl ps=>exact Heap.lt_size (show h.get? a=some _ from x)
 | met f y=>exact Heap.lt_size (show h.get? a=some _ from x)
 | ext φ=>obtain⟨_,⟨_,e⟩,_⟩:=x;exact Heap.lt_size e
theorem Paired.mapP{α β:Type}{F G:α→β→Prop}:∀{l₁:List α} {l₂:List β},Paired F l₁ l₂→(∀a b,F a b→G a b)→Paired G l₁ l₂
 | _,_,.nil,_=> .nil
 | _,_,.cons r t,f=> .cons (f _ _ r) (Paired.mapP t f)
theorem X4.stay(x:X4 P w H h a o)(k:∀b u,(b=a∨H b=some (.own a))→h.get? b=some u→h'.get? b=some u)
  (ho:∀b,H b=some (.own a)→H' b=some (.own a)) (ht:∀b xs,H b=some (.tup xs)→H' b=some (.tup xs)):X4 P w H' h' a o:=by
 induction o with
 | lst xs=>obtain⟨z,its,n,r,e⟩:=x;exact⟨z,its,n,r,k _ _ (.inl rfl) e⟩
 | tup xs=>obtain⟨z,its,r,ob,e,c⟩:=x;exact⟨z,its,r,ob,k _ _ (.inl rfl) e,c⟩
 | dK kvs=>obtain⟨z,y,vs,r,ob,es,ep,e,c⟩:=x;exact⟨z,y,vs,r,ob,es,ep,k _ _ (.inl rfl) e,c⟩
 | dT kvs=>
  obtain⟨z,y,xs,r,ob,es,ep,e,c⟩:=x
  exact⟨z,y,xs,Paired.mapP r fun p q z=>⟨z.1,ht _ _ z.2.1,z.2.2⟩,ob,es,ep,k _ _ (.inl rfl) e,c⟩
 | set S n=>obtain⟨ob,es,ep,t,e,c⟩:=x;exact⟨ob,es,ep,t,k _ _ (.inl rfl) e,c⟩
 | ins C dx fs=>
  obtain⟨d,z,ne,e,mA,⟨od,es,ep,e2,c⟩,r⟩:=x
  exact⟨ho _ d,z,ne,k _ _ (.inl rfl) e,mA,⟨od,es,ep,k _ _ (.inr d) e2,c⟩,r⟩
 | own y=>obtain⟨ob,e⟩:=x;exact⟨ob,k _ _ (.inl rfl) e⟩
 | xd fs=>obtain⟨mA,⟨od,es,ep,e,c⟩,r⟩:=x;exact⟨mA,⟨od,es,ep,k _ _ (.inl rfl) e,c⟩,r⟩
 | rng lo hi=>obtain⟨t,u,v,e⟩:=x;exact⟨t,u,v,k _ _ (.inl rfl) e⟩
 | frz ob u ih=>obtain⟨e,q⟩:=x;exact⟨k _ _ (.inl rfl) e,ih q⟩
 | tbl ps=>
  have e:h.get? a=some {cls:= .none,data:= .fields ps}:=x
  show h'.get? a=some {cls:= .none,data:= .fields ps}
  exact k a _ (.inl rfl) e
 | met f y=>
  have e:h.get? a=some (PySem.W.methodObj (.ref f) (.ref y)):=x
  show h'.get? a=some (PySem.W.methodObj (.ref f) (.ref y))
  exact k a _ (.inl rfl) e
 | ext φ=>obtain⟨p,⟨o,e⟩,st⟩:=x;exact⟨st _ _ p fun o q=>k _ _ (.inl rfl) q,⟨o,k _ _ (.inl rfl) e⟩,st⟩
theorem HOk.lt(x:HOk P w H h)(e:H a=some o):a<h.objs.size:=(x a o e).lt
theorem HOk.fresh(x:HOk P w H h)(e:h.objs.size≤a):H a=none:=by
 cases q:H a with
 | none=>rfl
 | some u=>exact absurd (Nat.lt_of_lt_of_le (x.lt q) e) (Nat.lt_irrefl _)
theorem HOk.kept(x:HOk P w H h)(k:∀b u,h.get? b=some u→h'.get? b=some u):HOk P w H h':=fun a o e=>
 (x a o e).stay (fun b u _ q=>k b u q) (fun _ q=>q) fun _ _ q=>q
theorem HOk.laid(x:HOk P w H h)(k:∀b u,h.get? b=some u→h'.get? b=some u)(hp:h.objs.size≤a)(new:X4 P w (upd H a o) h' a o):HOk P w (upd H a o) h':=fun b u e=>by
 have hn:=x.fresh hp
 by_cases hb:b=a
 ·subst hb;rw[Zw] at e;cases e;exact new
 ·rw[Zf hb] at e
  exact(x b u e).stay (fun c v _ q=>k c v q) (fun c q=>by rw[Zf (Zq q hn)];exact q) fun c xs q=>by rw[Zf (Zq q hn)];exact q
end
def Rd(H:Hp)(a:Addr)(u:HO):Prop:=H a=some u∨∃o,H a=some (.frz o u)
theorem Rd.ok{P:Program}{w:World}{H:Hp}{h:Heap}{a:Addr}{u:HO}(r:Rd H a u)(x:HOk P w H h):X4 P w H h a u:=by
 rcases r with r | ⟨o,r⟩
 ·exact x a u r
 ·obtain⟨_,q⟩:=x a _ r
  exact q
def Mut:Option HO→Prop
 | some (.lst _)=>True
 | some (.dK _)=>True
 | some (.dT _)=>True
 | some (.set _ _)=>True
 | some (.ins _ _ _)=>True
 | some (.ext _)=>True
 | _=>False
section
variable{P:Program}{w:World}{H:Hp}{h h':Heap}{x e:Addr}{o':HO}
theorem HOk.write(ok:HOk P w H h)(mu:Mut (H x))(he:e=x∨H e=some (.own x))(k:∀b u,b≠e→h.get? b=some u→h'.get? b=some u)(heo:∃u,h'.get? e=some u)
  (new:X4 P w (upd H x o') h' x o'):HOk P w (upd H x o') h':=fun b u q=>by
 have nown:∀c y,H c=some (.own y)→c≠x:=fun c y r z=>by subst z;rw[r] at mu;exact mu
 have ntup:∀c xs,H c=some (.tup xs)→c≠x:=fun c xs r z=>by subst z;rw[r] at mu;exact mu
 by_cases hb:b=x
 ·subst hb;rw[Zw] at q;cases q;exact new
 ·rw[Zf hb] at q
  by_cases hbe:b=e
  ·have q':H b=some (.own x):=by
    rcases he with z | z
    ·exact absurd (hbe.trans z) hb
    ·rw[hbe];exact z
   rw[q] at q';cases q'
   obtain⟨v,hv⟩:=heo
   exact⟨v,by rw[hbe];exact hv⟩
  ·refine(ok b u q).stay (fun c v hc r=>k c v ?_ r) (fun c r=>by rw[Zf (nown c b r)];exact r) fun c xs r=>by rw[Zf (ntup c xs r)];exact r
   rcases hc with rfl | hc
   ·exact hbe
   ·rintro rfl
    rcases he with z | z
    ·exact nown c b hc z
    ·rw[hc] at z;cases z;exact hb rfl
end
structure Un(fs ex:List Addr)(H H':Hp)(h h':Heap):Prop where
 keep:∀b o,h.get? b=some o→H b=none→b∉fs→b∉ex→h'.get? b=some o
 slot:∀b o,h.get? b=some o→H b=none→b∈fs→b∉ex→∃sl,h'.get? b=some {o with slots:=sl}
 free:∀b o,h.get? b=some o→H b=none→b∉ex→H' b=none
 there:∀b o,h.get? b=some o→b∉ex→∃o',h'.get? b=some o'
 tups:∀b xs,H b=some (.tup xs)→H' b=some (.tup xs)
 frzs:∀b o u,H b=some (.frz o u)→H' b=some (.frz o u)
 tbls:∀b ps,H b=some (.tbl ps)→∃more,H' b=some (.tbl (ps++more))
section
variable{fs fs' ex ex':List Addr}{H H1 H2:Hp}{h h1 h2 h':Heap}{a x e:Addr}{o:HO}
theorem Un.any(u:Un fs ex H H1 h h1){b:Addr}{ob:Obj}(q:h.get? b=some ob)(n:H b=none)(hx:b∉ex):∃sl,h1.get? b=some {ob with slots:=sl}:=by
 by_cases hb:b∈fs
 ·exact u.slot b ob q n hb hx
 ·exact⟨ob.slots,u.keep b ob q n hb hx⟩
theorem Un.trans(a:Un fs ex H H1 h h1)(b:Un fs ex H1 H2 h1 h2):Un fs ex H H2 h h2 where
 keep:=fun c ob q n hc hx=>b.keep c ob (a.keep c ob q n hc hx) (a.free c ob q n hx) hc hx
 slot:=fun c ob q n hc hx=>by
  obtain⟨sl,e1⟩:=a.slot c ob q n hc hx
  obtain⟨sl',e2⟩:=b.slot c _ e1 (a.free c ob q n hx) hc hx
  exact⟨sl',e2⟩
 free:=fun c ob q n hx=>by
  obtain⟨o',e1⟩:=a.there c ob q hx
  exact b.free c o' e1 (a.free c ob q n hx) hx
 there:=fun c ob q hx=>by
  obtain⟨o',e1⟩:=a.there c ob q hx
  exact b.there c o' e1 hx
 tups:=fun c xs q=>b.tups c xs (a.tups c xs q)
 frzs:=fun c ob xs q=>b.frzs c ob xs (a.frzs c ob xs q)
 tbls:=fun c ps q=>by
  obtain⟨m1,e1⟩:=a.tbls c ps q
  obtain⟨m2,e2⟩:=b.tbls c _ e1
  exact⟨m1++m2,by rw[e2,Array.append_assoc]⟩
theorem Un.kept(k:∀b u,h.get? b=some u→h'.get? b=some u):Un fs ex H H h h':=
 ⟨fun b ob q _ _ _=>k b ob q,fun b ob q _ _ _=>⟨ob.slots,k b ob q⟩,fun _ _ _ n _=>n,fun b ob q _=>⟨ob,k b ob q⟩,fun _ _ q=>q,fun _ _ _ q=>q,fun _ ps q=>⟨#[],by rw[q];simp⟩⟩
theorem Un.refl:Un fs ex H H h h:=Un.kept fun _ _ q=>q
theorem Un.laid(k:∀b u,h.get? b=some u→h'.get? b=some u)(hp:h.objs.size≤a)(hn:H a=none):Un fs ex H (upd H a o) h h' where
 keep:=fun b u q _ _ _=>k b u q
 slot:=fun b u q _ _ _=>⟨u.slots,k b u q⟩
 free:=fun b u q n _=>by rw[Zf (Nat.ne_of_lt (Nat.lt_of_lt_of_le (Heap.lt_size q) hp))];exact n
 there:=fun b u q _=>⟨u,k b u q⟩
 tups:=fun b xs q=>by rw[Zf (Zq q hn)];exact q
 frzs:=fun b u xs q=>by rw[Zf (Zq q hn)];exact q
 tbls:=fun b ps q=>⟨#[],by rw[Zf (Zq q hn),q];simp⟩
theorem Un.write(mu:Mut (H x))(he:e=x∨H e=some (.own x))(k:∀b u,b≠e→h.get? b=some u→h'.get? b=some u)(heo:∃u,h'.get? e=some u):Un fs ex H (upd H x o) h h':=by
 have hx:∀b,H b=none→b≠x:=fun b n z=>by subst z;rw[n] at mu;exact mu
 have hb:∀b,H b=none→b≠e:=fun b n z=>by
  subst z
  rcases he with r | r
  ·exact hx b n r
  ·rw[n] at r;cases r
 have hm:∀b u,H b=some u→¬Mut (some u)→b≠x:=fun b u q nm z=>by subst z;rw[q] at mu;exact nm mu
 refine⟨fun b u q n _ _=>k b u (hb b n) q,fun b u q n _ _=>⟨u.slots,k b u (hb b n) q⟩,fun b u q n _=>by rw[Zf (hx b n)];exact n,fun b u q _=>?_,
  fun b xs q=>by rw[Zf (hm b _ q fun z=>z)];exact q,fun b u xs q=>by rw[Zf (hm b _ q fun z=>z)];exact q,fun b ps q=>⟨#[],by rw[Zf (hm b _ q fun z=>z),q];simp⟩⟩
 by_cases hbe:b=e
 ·subst hbe;exact heo
 ·exact⟨u,k b u hbe q⟩
end
noncomputable def trk(h:Heap)(H:Hp):List Addr:=(List.range h.objs.size).filter fun a=>(H a).isSome
noncomputable def hidT(h:Heap)(H:Hp):Heap:=PySem.W.hideAll h (trk h H)
theorem Z78(h:Heap)(H:Hp):(hidT h H).objs.size=h.objs.size:=PySem.W.hideAll_size _ _
theorem Zc1{h:Heap}{H:Hp}{b:Addr}{o:Obj}(e:h.get? b=some o)(n:H b=none):(hidT h H).get? b=some o:=
 PySem.W.hideAll_get _ e fun hm=>by
  have q:(H b).isSome=true:=(List.mem_filter.mp hm).2
  rw[n] at q;simp at q
theorem Zq3{h:Heap}{H:Hp}{b:Addr}{o:Obj}(e:(hidT h H).get? b=some o):h.get? b=some o∧H b=none:=by
 have e':h.get? b=some o:=PySem.W.of_hideAll (trk h H) e
 refine⟨e',?_⟩
 cases q:H b with
 | none=>rfl
 | some x=>
  have hm:b∈trk h H:=List.mem_filter.mpr ⟨List.mem_range.mpr (Heap.lt_size e'),by simp[q]⟩
  have z:(hidT h H).get? b=none:=PySem.W.hideAll_none (trk h H) hm
  rw[z] at e;cases e
noncomputable def Zr3(g h:Heap)(L:Addr):List (Addr×Obj):=(List.range h.objs.size).filterMap fun a=>if a=L∨(g.get? a).isSome=true then none else(h.get? a).map fun o=>(a,o)
noncomputable def rest(g h:Heap)(L d:Addr):List (Addr×Obj):=(Zr3 g h L).filter fun p=>decide (p.1≠d)
structure Mod(K:PySem.W.Frag)(mg:Str→Option Value)(base:Heap):Prop where
 kin:K.In base
 glob:base.Ns mainGlobals mg
 blt:∃mb,base.Ns builtinsNs mb∧∀x:Str,x≠"__name__"→mb x=bootBuiltins x
 nolimit:base.NoLimit
structure Cx where
 prog:Program
 w:World
 K:PySem.W.Frag
 mg:Str→Option Value
 base:Heap
 A:Around
 N:List Str
 s₀:Shared
 H₀:Hp
 env:Env
 outer:List Env
 stack:List Env
 ex:List Addr
 fn:Str→Bool
 calm:Bool
 pn:List (Addr×Obj)
 xe:Value→Shared→Prop
noncomputable def frs(l:List Env):List Addr:=l.filterMap (·.frame)
noncomputable abbrev Cx.fs(X:Cx):List Addr:=frs X.outer
def Vis(sc:Scope)(x:Str):Prop:=sc.names.lookup x=some .local∨sc.names.lookup x=some .cell∨sc.names.lookup x=some .free
def Loc(sc:Scope)(x:Str):Prop:=sc.names.lookup x=some .local∨sc.names.lookup x=some .cell
def Look(env:Env)(h:Heap)(m:Str→Option Value)(x:Str)(u:Value):Prop:=
 (env.kindOf x=some .local∧m x=some u)∨((env.kindOf x=some .cell∨env.kindOf x=some .free)∧∃c,env.cells.lookup x=some c∧h.IsCell c (some u))
structure Cx.Ok(X:Cx):Prop where
 mod:Mod X.K X.mg X.base
 kind:X.env.scope.kind= .function
 glob:X.env.globals=mainGlobals
 blt:X.env.builtins=builtinsNs
 above:X.s₀.heap.objs.size≤X.env.locals
 inj:∀x y c,X.env.cells.lookup x=some c→X.env.cells.lookup y=some c→x=y
 has:∀x,(X.env.kindOf x=some .cell∨X.env.kindOf x=some .free)→∃c,X.env.cells.lookup x=some c
 cab:∀x c,X.fn x=true→X.env.cells.lookup x=some c→X.s₀.heap.objs.size≤c
 hd:X.calm=true→X.A.handled=none
 frames:X.A.frames=some X.stack
 stk:X.stack=X.outer∨(X.stack=X.env::X.outer∧X.env.frame=some X.env.locals)
 exf:∀b∈X.ex,b≠X.env.locals∧∀x c,X.env.cells.lookup x=some c→c≠b
 bs:∀b o,X.base.get? b=some o→X.s₀.heap.get? b=some o∧X.H₀ b=none
 bsz:X.base.objs.size≤X.s₀.heap.objs.size
 noex:∀b o,X.base.get? b=some o→b∉X.ex
 exfs:∀b∈X.ex,b∉X.fs
 funs:X.s₀.heap.FunFrames X.base X.outer
 frf:∀b∈X.fs,X.H₀ b=none
structure Inv(X:Cx)(pins:List (Addr×Obj))(σ:List (Option V))(H:Hp)(s:Shared):Prop where
 ok:X.Ok
 os:s.os=X.s₀.os
 bare:AllBare s.gens
 base:Un X.fs X.ex X.H₀ H X.s₀.heap s.heap
 loc:∃m,s.heap.Ns X.env.locals m∧∀(i:Nat) (x:Str) (v:V),X.N[i]?=some x→σ[i]?=some (some v)→Vis X.env.scope x→∃u,RelV v u∧Look X.env s.heap m x u
 cell:∀x c,X.env.cells.lookup x=some c→∃v,s.heap.IsCell c v
 free:H X.env.locals=none
 freeC:∀x c,X.env.cells.lookup x=some c→H c=none
 pin:∀p∈X.pn++pins,s.heap.get? p.1=some p.2∧H p.1=none∧p.1≠X.env.locals∧p.1∉X.fs∧∀v,p.2.data≠ .cell v
 hok:HOk X.prog X.w H s.heap
 len:σ.length=X.N.length
section
variable{X:Cx}{pins:List (Addr×Obj)}{σ:List (Option V)}{H H':Hp}{s:Shared}{h':Heap}
theorem Cx.Ok.nofr(ok:X.Ok){b:Addr}{o:Obj}(e:X.base.get? b=some o):b∉X.fs:=fun hb=>by
 have:=(ok.funs.mem hb).1
 rw[e] at this;cases this
theorem Inv.bs(I:Inv X pins σ H s):∀b o,X.base.get? b=some o→s.heap.get? b=some o∧H b=none:=fun b o e=>
 ⟨I.base.keep b o (I.ok.bs b o e).1 (I.ok.bs b o e).2 (I.ok.nofr e) (I.ok.noex b o e),I.base.free b o (I.ok.bs b o e).1 (I.ok.bs b o e).2 (I.ok.noex b o e)⟩
theorem Inv.bk(I:Inv X pins σ H s):∀b o,X.base.get? b=some o→s.heap.get? b=some o:=fun b o e=>(I.bs b o e).1
theorem Inv.mod(I:Inv X pins σ H s):Mod X.K X.mg X.base:=I.ok.mod
theorem Inv.kIn(I:Inv X pins σ H s):X.K.In s.heap:=I.ok.mod.kin.keeps I.bk
theorem Inv.nolimit(I:Inv X pins σ H s):s.heap.NoLimit:=I.ok.mod.nolimit.keeps I.bk
theorem Inv.lt(I:Inv X pins σ H s):X.env.locals<s.heap.objs.size:=by obtain⟨_,hn,_⟩:=I.loc;exact hn.lt
theorem Inv.sz(I:Inv X pins σ H s):X.s₀.heap.objs.size≤s.heap.objs.size:=Nat.le_trans I.ok.above (Nat.le_of_lt I.lt)
theorem Inv.nofs(I:Inv X pins σ H s){a:Addr}(h:s.heap.objs.size≤a):a∉X.fs:=fun hb=>by
 obtain⟨_,o,ho,_⟩:=I.ok.funs.mem hb
 exact absurd (Nat.lt_of_lt_of_le (Heap.lt_size ho) (Nat.le_trans I.sz h)) (Nat.lt_irrefl _)
theorem Inv.cne(I:Inv X pins σ H s):∀x c,X.env.cells.lookup x=some c→c≠X.env.locals:=fun x c e z=>by
 obtain⟨v,o,ho,hd⟩:=I.cell x c e
 obtain⟨m,⟨o',es,ep,ho',hd',_⟩,_⟩:=I.loc
 rw[z,ho'] at ho;cases ho;rw[hd'] at hd;cases hd
theorem Inv.funs(I:Inv X pins σ H s):s.heap.FunFrames X.base X.outer:=by
 have all:∀(l:List Env),(∀b∈frs l,b∈X.fs)→X.s₀.heap.FunFrames X.base l→s.heap.FunFrames X.base l:=by
  intro l
  induction l with
  | nil=>intro _ _;trivial
  | cons env r ih=>
   intro hs hl
   obtain⟨hk,⟨L,o,hf,hn,ho,hd⟩,hr⟩:=hl
   have hL:L∈X.fs:=hs L (by unfold frs;rw[List.filterMap_cons,hf];exact List.mem_cons_self)
   obtain⟨sl,e⟩:=I.base.slot L o ho (I.ok.frf L hL) hL fun z=>I.ok.exfs L z hL
   exact⟨hk,⟨L,_,hf,hn,e,hd⟩,ih (fun b hb=>hs b (by unfold frs;rw[List.filterMap_cons,hf];exact List.mem_cons_of_mem _ hb)) hr⟩
 exact all X.outer (fun _ hb=>hb) I.ok.funs
theorem Inv.stack(I:Inv X pins σ H s):s.heap.FunFrames X.base X.stack:=by
 rcases I.ok.stk with e | ⟨e,hf⟩
 ·rw[e];exact I.funs
 ·rw[e]
  obtain⟨m,hn,_⟩:=I.loc
  refine .cons (by rw[I.ok.kind];decide) hf hn ?_ I.funs
  exact Heap.get?_none_of_le (Nat.le_trans I.ok.bsz I.ok.above)
theorem Inv.stkSub(I:Inv X pins σ H s):∀b∈frs X.stack,b∈X.env.locals::X.fs:=fun b hb=>by
 rcases I.ok.stk with e | ⟨e,hf⟩
 ·rw[e] at hb;exact List.mem_cons_of_mem _ hb
 ·rw[e] at hb
  unfold frs at hb
  rw[List.filterMap_cons,hf] at hb
  exact hb
theorem Inv.stkFree(I:Inv X pins σ H s):∀b∈frs X.stack,H b=none:=fun b hb=>by
 rcases List.mem_cons.mp (I.stkSub b hb) with e | hb
 ·rw[e];exact I.free
 ·obtain⟨_,o,ho,_⟩:=I.ok.funs.mem hb
  exact I.base.free b o ho (I.ok.frf b hb) fun z=>I.ok.exfs b z hb
theorem Inv.step{g':Array GenState}{t':Nat}{d':Drawn}{ch:List Addr}(I:Inv X pins σ H s)
  (hch:∀b∈ch,(b∈X.ex∨X.s₀.heap.objs.size≤b)∧b≠X.env.locals∧(∀x c,X.env.cells.lookup x=some c→c≠b)∧∀p∈X.pn++pins,p.1≠b)
  (keep:∀b o,b≠X.env.locals→b∉X.fs→b∉ch→s.heap.get? b=some o→H b=none→h'.get? b=some o)
  (slot:∀b o,b≠X.env.locals→b∈X.fs→b∉ch→s.heap.get? b=some o→H b=none→∃sl,h'.get? b=some {o with slots:=sl}) (free:∀b o,b∉ch→s.heap.get? b=some o→H b=none→H' b=none)
  (there:∀b o,b∉ch→s.heap.get? b=some o→∃o',h'.get? b=some o')
  (tups:∀b xs,H b=some (.tup xs)→H' b=some (.tup xs)) (frzs:∀b o u,H b=some (.frz o u)→H' b=some (.frz o u)) (tbls:∀b ps,H b=some (.tbl ps)→∃more,H' b=some (.tbl (ps++more)))
  (ns:∀m,s.heap.Ns X.env.locals m→h'.Ns X.env.locals m) (hok:HOk X.prog X.w H' h') (hg:AllBare g'):
  Inv X pins σ H' {s with heap:=h',gens:=g',drawn:=d',toks:=t'}:=by
 have neL:∀b o,X.s₀.heap.get? b=some o→b≠X.env.locals:=fun b o e=>Nat.ne_of_lt (Nat.lt_of_lt_of_le (Heap.lt_size e) I.ok.above)
 have neC:∀b o,X.s₀.heap.get? b=some o→b∉X.ex→b∉ch:=fun b o e hx hb=>by
  rcases(hch b hb).1 with z | z
  ·exact hx z
  ·exact absurd (Nat.lt_of_lt_of_le (Heap.lt_size e) z) (Nat.lt_irrefl _)
 have cellK:∀x c,X.env.cells.lookup x=some c→∀v,s.heap.IsCell c v→h'.IsCell c v:=fun x c e v ⟨o,ho,hd⟩=>by
  have nch:c∉ch:=fun z=>(hch c z).2.2.1 x c e rfl
  by_cases hc:c∈X.fs
  ·obtain⟨sl,q⟩:=slot c o (I.cne x c e) hc nch ho (I.freeC x c e)
   exact⟨_,q,hd⟩
  ·exact⟨o,keep c o (I.cne x c e) hc nch ho (I.freeC x c e),hd⟩
 refine⟨I.ok,I.os,hg,⟨fun b o e n hb hx=>?_,fun b o e n hb hx=>?_,fun b o e n hx=>?_,fun b o e hx=>?_,fun b xs e=>tups b xs (I.base.tups b xs e),fun b o xs e=>frzs b o xs (I.base.frzs b o xs e),fun b ps e=>?_⟩,?_,fun x c e=>?_,?_,fun x c e=>?_,fun p hp=>?_,hok,I.len⟩
 ·exact keep b o (neL b o e) hb (neC b o e hx) (I.base.keep b o e n hb hx) (I.base.free b o e n hx)
 ·obtain⟨sl,e1⟩:=I.base.slot b o e n hb hx
  obtain⟨sl',e2⟩:=slot b _ (neL b o e) hb (neC b o e hx) e1 (I.base.free b o e n hx)
  exact⟨sl',e2⟩
 ·obtain⟨o',e1⟩:=I.base.there b o e hx
  exact free b o' (neC b o e hx) e1 (I.base.free b o e n hx)
 ·obtain⟨o',e1⟩:=I.base.there b o e hx
  exact there b o' (neC b o e hx) e1
 ·obtain⟨m1,e1⟩:=I.base.tbls b ps e
  obtain⟨m2,e2⟩:=tbls b _ e1
  exact⟨m1++m2,by rw[e2,Array.append_assoc]⟩
 ·obtain⟨m,hn,hl⟩:=I.loc
  refine⟨m,ns m hn,fun i x v e1 e2 e3=>?_⟩
  obtain⟨u,r,l⟩:=hl i x v e1 e2 e3
  refine⟨u,r,?_⟩
  rcases l with l | ⟨k,c,e,z⟩
  ·exact .inl l
  ·exact .inr ⟨k,c,e,cellK x c e _ z⟩
 ·obtain⟨v,z⟩:=I.cell x c e
  exact⟨v,cellK x c e v z⟩
 ·obtain⟨m,⟨o,_,_,ho,_⟩,_⟩:=I.loc
  exact free _ o (fun z=>(hch _ z).2.1 rfl) ho I.free
 ·obtain⟨v,o,ho,hd⟩:=I.cell x c e
  exact free c o (fun z=>(hch c z).2.2.1 x c e rfl) ho (I.freeC x c e)
 ·obtain⟨e,n,ne,nf,d⟩:=I.pin p hp
  have nch:p.1∉ch:=fun z=>(hch p.1 z).2.2.2 p hp rfl
  exact⟨keep p.1 p.2 ne nf nch e n,free p.1 p.2 nch e n,ne,nf,d⟩
theorem Inv.un{t':Nat}(I:Inv X pins σ H s)(u:Un X.fs [] H H' s.heap h')(hok:HOk X.prog X.w H' h'):Inv X pins σ H' {s with heap:=h',toks:=t'}:=by
 obtain⟨m,⟨o,es,ep,ho,r⟩,_⟩:=id I.loc
 obtain⟨sl,hL⟩:=u.any ho I.free (by simp)
 exact I.step (g':=s.gens) (d':=s.drawn) (ch:=[]) (fun _ z=>nomatch z) (fun b o _ hb _ e n=>u.keep b o e n hb (by simp)) (fun b o _ hb _ e n=>u.slot b o e n hb (by simp)) (fun b o _ e n=>u.free b o e n (by simp)) (fun b o _ e=>u.there b o e (by simp)) u.tups u.frzs u.tbls (fun m' hm=>by
  obtain⟨o',es',ep',ho',r'⟩:=hm
  rw[ho] at ho';cases ho'
  exact⟨_,es',ep',hL,r'⟩) hok I.bare
theorem Inv.call{g':Array GenState}{t':Nat}{d':Drawn}{ch:List Addr}(I:Inv X pins σ H s)(u:Un (frs X.stack) ch H H' s.heap h')(hok:HOk X.prog X.w H' h')(hg:AllBare g')
  (hch:∀b∈ch,(b∈X.ex∨X.s₀.heap.objs.size≤b)∧b≠X.env.locals∧(∀x c,X.env.cells.lookup x=some c→c≠b)∧∀p∈X.pn++pins,p.1≠b):
  Inv X pins σ H' {s with heap:=h',gens:=g',drawn:=d',toks:=t'}:=by
 obtain⟨m,⟨o,es,ep,ho,r⟩,_⟩:=id I.loc
 obtain⟨sl,hL⟩:=u.any ho I.free fun z=>(hch _ z).2.1 rfl
 exact I.step (ch:=ch) hch (fun b o hL hb hc e n=>u.keep b o e n (fun z=>(List.mem_cons.mp (I.stkSub b z)).elim hL hb) hc) (fun b o _ _ hc e n=>u.any e n hc) (fun b o hc e n=>u.free b o e n hc) (fun b o hc e=>u.there b o e hc) u.tups u.frzs u.tbls (fun m' hm=>by
  obtain⟨o',es',ep',ho',r'⟩:=hm
  rw[ho] at ho';cases ho'
  exact⟨_,es',ep',hL,r'⟩) hok hg
theorem Inv.turned{t':Nat}{it:Addr}(I:Inv X pins σ H s)(k:∀b o,b≠it→s.heap.get? b=some o→h'.get? b=some o)(hn:H it=none)(hL:it≠X.env.locals)
  (h1:it∈X.ex∨X.s₀.heap.objs.size≤it) (h2:∀x c,X.env.cells.lookup x=some c→c≠it) (h3:∀p∈X.pn++pins,p.1≠it):Inv X pins σ H {s with heap:=h',toks:=t'}:=by
 have nit:∀b u,H b=some u→b≠it:=fun b u e z=>by rw[z,hn] at e;cases e
 refine I.step (g':=s.gens) (d':=s.drawn) (ch:=[it]) (fun b hb=>?_) (fun b o _ _ hc e _=>k b o (fun z=>hc (by simp[z])) e) (fun b o _ _ hc e _=>⟨o.slots,k b o (fun z=>hc (by simp[z])) e⟩) (fun _ _ _ _ n=>n)
  (fun b o hc e=>⟨o,k b o (fun z=>hc (by simp[z])) e⟩) (fun _ _ e=>e) (fun _ _ _ e=>e) (fun b ps e=>⟨#[],by rw[e];simp⟩) (fun m hm=>?_) (fun b u e=>?_) I.bare
 ·have e:b=it:=by simpa using hb
  subst e
  exact⟨h1,hL,h2,h3⟩
 ·obtain⟨o,es,ep,ho,r⟩:=hm
  exact⟨o,es,ep,k _ o (Ne.symm hL) ho,r⟩
 ·refine(I.hok b u e).stay (fun c v hc q=>k c v ?_ q) (fun _ q=>q) fun _ _ q=>q
  rcases hc with z | z
  ·rw[z];exact nit b u e
  ·exact nit c _ z
theorem Inv.tok(I:Inv X pins σ H s)(t:Nat):Inv X pins σ H {s with toks:=t}:=I.un (h':=s.heap) (t':=t) Un.refl I.hok
theorem Inv.kept{t':Nat}(I:Inv X pins σ H s)(k:∀b u,s.heap.get? b=some u→h'.get? b=some u):Inv X pins σ H {s with heap:=h',toks:=t'}:=I.un (Un.kept k) (I.hok.kept k)
theorem Inv.laid{a:Addr}{o:HO}{t':Nat}(I:Inv X pins σ H s)(k:∀b u,s.heap.get? b=some u→h'.get? b=some u)(hp:s.heap.objs.size≤a)(new:X4 X.prog X.w (upd H a o) h' a o):
  Inv X pins σ (upd H a o) {s with heap:=h',toks:=t'}:=I.un (Un.laid k hp (I.hok.fresh hp)) (I.hok.laid k hp new)
theorem Inv.write{x e:Addr}{o:HO}{t':Nat}(I:Inv X pins σ H s)(mu:Mut (H x))(he:e=x∨H e=some (.own x))(k:∀b u,b≠e→s.heap.get? b=some u→h'.get? b=some u)(heo:∃u,h'.get? e=some u)
  (new:X4 X.prog X.w (upd H x o) h' x o):Inv X pins σ (upd H x o) {s with heap:=h',toks:=t'}:=I.un (Un.write mu he k heo) (I.hok.write mu he k heo new)
theorem Inv.pins_of{pins':List (Addr×Obj)}(I:Inv X pins σ H s)(h:∀p∈pins',s.heap.get? p.1=some p.2∧H p.1=none∧p.1≠X.env.locals∧p.1∉X.fs∧∀v,p.2.data≠ .cell v):Inv X pins' σ H s:=
 ⟨I.ok,I.os,I.bare,I.base,I.loc,I.cell,I.free,I.freeC,fun p hp=>(List.mem_append.mp hp).elim (fun z=>I.pin p (List.mem_append_left _ z)) (h p),I.hok,I.len⟩
theorem E7{N:List Str}(hN:N.Nodup){i j:Nat}{x:Str}(a:N[i]?=some x)(b:N[j]?=some x):i=j:=by
 obtain⟨h1,e1⟩:=List.getElem?_eq_some_iff.mp a
 obtain⟨h2,e2⟩:=List.getElem?_eq_some_iff.mp b
 exact(List.getElem_inj hN).mp (e1.trans e2.symm)
theorem Rx{M:Model}{A:Around}{E:Value→Shared→Prop}{i:Nat}{x:Str}{v:V}{u:Value}{Q:Unit→Shared→Prop}(I:Inv X pins σ H s)(hN:X.N.Nodup)(hi:X.N[i]?=some x)(hx:Loc X.env.scope x)(r:RelV v u)
  (h:∀s',Inv X pins (σ.set i (some v)) H s'→(∃a,Heap.SameBut a s.heap s'.heap∧(a=X.env.locals∨X.env.cells.lookup x=some a))→Q () s') (hf:X.fn x=true∨X.env.scope.names.lookup x=some .local:=by first | exact .inl rfl | exact .inr rfl | assumption):wpAny M A (storeName X.env x u) Q E s:=by
 obtain⟨m,hn,hl⟩:=id I.loc
 have hcls:(X.env.scope.kind== .class || (X.env.scope.kind== .module&&X.env.locals !=X.env.globals))=false:=by rw[I.ok.kind];rfl
 have hiσ:i<σ.length:=by rw[I.len];exact(List.getElem?_eq_some_iff.mp hi).1
 have cne:=I.cne
 have tracked:∀{a:Addr} {h':Heap},(∃o,s.heap.get? a=some o∧H a=none)→Heap.SameBut a s.heap h'→HOk X.prog X.w H h':=fun{a h'} ha hs b ob e=>by
  obtain⟨_,_,hfree⟩:=ha
  refine(I.hok b ob e).stay (fun c w' hc q=>(hs.2 c ?_).trans q) (fun _ q=>q) fun _ _ q=>q
  rintro rfl
  rcases hc with rfl | hc
  ·rw[hfree] at e;cases e
  ·rw[hfree] at hc;cases hc
 rcases hx with hk | hk
 ·refine wpAny_storeName_local hk hn (fun h' hn' hs=>?_) hcls
  obtain⟨oL,_,_,hoL,_⟩:=id hn
  refine h _ ⟨I.ok,I.os,I.bare,⟨fun b o e n hb hx=>?_,fun b o e n hb hx=>?_,I.base.free,fun b o e hx=>?_,I.base.tups,I.base.frzs,I.base.tbls⟩,⟨_,hn',fun j y v' e1 e2 e3=>?_⟩,fun y c e=>?_,I.free,I.freeC,fun p hp=>?_,tracked ⟨oL,hoL,I.free⟩ hs,by simpa using I.len⟩ ⟨_,hs,.inl rfl⟩
  ·exact(hs.2 b (Nat.ne_of_lt (Nat.lt_of_lt_of_le (Heap.lt_size e) I.ok.above))).trans (I.base.keep b o e n hb hx)
  ·obtain⟨sl,e1⟩:=I.base.slot b o e n hb hx
   exact⟨sl,(hs.2 b (Nat.ne_of_lt (Nat.lt_of_lt_of_le (Heap.lt_size e) I.ok.above))).trans e1⟩
  ·obtain⟨o',e1⟩:=I.base.there b o e hx
   exact⟨o',(hs.2 b (Nat.ne_of_lt (Nat.lt_of_lt_of_le (Heap.lt_size e) I.ok.above))).trans e1⟩
  ·by_cases hj:j=i
   ·subst hj
    rw[hi] at e1;cases e1
    rw[List.getElem?_set_self hiσ] at e2
    cases e2
    exact⟨u,r,.inl ⟨hk,by simp⟩⟩
   ·rw[List.getElem?_set_ne (Ne.symm hj)] at e2
    obtain⟨u',r',q⟩:=hl j y v' e1 e2 e3
    refine⟨u',r',?_⟩
    rcases q with⟨k,e⟩ | ⟨k,c,e,z⟩
    ·refine .inl ⟨k,?_⟩
     have:y≠x:=fun e=>hj (E7 hN e1 (e ▸ hi))
     simp[this,e]
    ·exact .inr ⟨k,c,e,z.sameBut hs (cne y c e)⟩
  ·obtain⟨w',z⟩:=I.cell y c e
   exact⟨w',z.sameBut hs (cne y c e)⟩
  ·obtain⟨e,n,ne,nf,d⟩:=I.pin p hp
   exact⟨(hs.2 p.1 ne).trans e,n,ne,nf,d⟩
 ·have hfn:X.fn x=true:=by
   rcases hf with z | z
   ·exact z
   ·rw[z] at hk;cases hk
  obtain⟨c,hc⟩:=I.ok.has x (.inl hk)
  obtain⟨w',z⟩:=I.cell x c hc
  refine wpAny_storeName_cell I.ok.kind hk hc z (fun h' hc' hs=>?_)
  obtain⟨oc,hoc,hocd⟩:=id z
  refine h {s with heap:=h'} ⟨I.ok,I.os,I.bare,⟨fun b o e n hb hx=>?_,fun b o e n hb hx=>?_,I.base.free,fun b o e hx=>?_,I.base.tups,I.base.frzs,I.base.tbls⟩,⟨m,hn.sameBut hs (Ne.symm (cne x c hc)),fun j y v' e1 e2 e3=>?_⟩,fun y c' e=>?_,I.free,I.freeC,fun p hp=>?_,tracked ⟨oc,hoc,I.freeC x c hc⟩ hs,by simpa using I.len⟩ ⟨c,hs,.inr hc⟩
  ·exact(hs.2 b (Nat.ne_of_lt (Nat.lt_of_lt_of_le (Heap.lt_size e) (I.ok.cab x c hfn hc)))).trans (I.base.keep b o e n hb hx)
  ·obtain⟨sl,e1⟩:=I.base.slot b o e n hb hx
   exact⟨sl,(hs.2 b (Nat.ne_of_lt (Nat.lt_of_lt_of_le (Heap.lt_size e) (I.ok.cab x c hfn hc)))).trans e1⟩
  ·obtain⟨o',e1⟩:=I.base.there b o e hx
   exact⟨o',(hs.2 b (Nat.ne_of_lt (Nat.lt_of_lt_of_le (Heap.lt_size e) (I.ok.cab x c hfn hc)))).trans e1⟩
  ·by_cases hj:j=i
   ·subst hj
    rw[hi] at e1;cases e1
    rw[List.getElem?_set_self hiσ] at e2
    cases e2
    exact⟨u,r,.inr ⟨.inl hk,c,hc,hc'⟩⟩
   ·rw[List.getElem?_set_ne (Ne.symm hj)] at e2
    obtain⟨u',r',q⟩:=hl j y v' e1 e2 e3
    refine⟨u',r',?_⟩
    rcases q with q | ⟨k,c',e,z'⟩
    ·exact .inl q
    ·refine .inr ⟨k,c',e,z'.sameBut hs ?_⟩
     rintro rfl
     exact hj (E7 hN e1 (I.ok.inj _ _ _ e hc ▸ hi))
  ·by_cases hcc:c'=c
   ·subst hcc;exact⟨_,hc'⟩
   ·obtain⟨w2,z2⟩:=I.cell y c' e
    exact⟨w2,z2.sameBut hs hcc⟩
  ·obtain⟨e,n,ne,nf,d⟩:=I.pin p hp
   refine⟨(hs.2 p.1 ?_).trans e,n,ne,nf,d⟩
   intro q
   rw[q,hoc] at e
   have q':oc=p.2:=Option.some.inj e
   exact d w' (by rw[←q'];exact hocd)
theorem Zh3{M:Model}{A:Around}{E:Value→Shared→Prop}{i:Nat}{x:Str}{v:V}{u:Value}{Q:Unit→Shared→Prop}(I:Inv X pins σ H s)(hN:X.N.Nodup)(hi:X.N[i]?=some x)(hx:Loc X.env.scope x)(r:RelV v u)
  (h:∀s',Inv X pins (σ.set i (some v)) H s'→Q () s') (hf:X.fn x=true∨X.env.scope.names.lookup x=some .local:=by first | exact .inl rfl | exact .inr rfl | assumption):wpAny M A (storeName X.env x u) Q E s:=
 Rx I hN hi hx r (fun s' I' _=>h s' I') hf
theorem Inv.call'{s':Shared}{ch:List Addr}(I:Inv X pins σ H s)(ho:s'.os=s.os)(u:Un (frs X.stack) ch H H' s.heap s'.heap)(hok:HOk X.prog X.w H' s'.heap)(hg:AllBare s'.gens)
  (hch:∀b∈ch,(b∈X.ex∨X.s₀.heap.objs.size≤b)∧b≠X.env.locals∧(∀x c,X.env.cells.lookup x=some c→c≠b)∧∀p∈X.pn++pins,p.1≠b):Inv X pins σ H' s':=by
 obtain⟨h',g',d',t',o'⟩:=s'
 have e:o'=s.os:=ho
 subst e
 exact I.call (g':=g') (t':=t') (d':=d') u hok hg hch
end
abbrev XK:=Value→Option Addr→Hp→Prop
noncomputable abbrev St:=List (Option V)
abbrev VK:=V→Hp→Prop
abbrev TE:=St→Hp→VK→Prop
abbrev TT:=St→Hp→(Bool→Hp→Prop)→Prop
abbrev TA:=St→Hp→(List V→Hp→Prop)→Prop
structure Ends where
 nx:St→Hp→Prop
 rt:VK
 bk:St→Hp→Prop:=fun _ _=>False
 ct:St→Hp→Prop:=fun _ _=>False
abbrev TS:=Ends→St→Hp→Prop
def EP(X:Cx)(pins:List (Addr×Obj))(σ:St)(Q:VK)(u:Value)(s':Shared):Prop:=∃v H',Inv X pins σ H' s'∧RelV v u∧Q v H'
def TP(X:Cx)(pins:List (Addr×Obj))(σ:St)(Q:Bool→Hp→Prop)(b:Bool)(s':Shared):Prop:=∃H',Inv X pins σ H' s'∧Q b H'
def AP(X:Cx)(pins:List (Addr×Obj))(σ:St)(Q:List V→Hp→Prop)(us:List Value)(s':Shared):Prop:=∃vs H',Inv X pins σ H' s'∧Vals vs us∧Q vs H'
def SP(X:Cx)(pins:List (Addr×Obj))(D:Ends)(f:Flow)(s':Shared):Prop:=
 match f with
 | .next=>∃σ' H',Inv X pins σ' H' s'∧D.nx σ' H'
 | .brk=>∃σ' H',Inv X pins σ' H' s'∧D.bk σ' H'
 | .cont=>∃σ' H',Inv X pins σ' H' s'∧D.ct σ' H'
 | .ret u=>∃v σ' H',Inv X pins σ' H' s'∧RelV v u∧D.rt v H'
def PE(X:Cx)(e:Expr)(t:TE):Prop:=
 ∀(pins:List (Addr×Obj)) (s:Shared) (σ:St) (H:Hp) (Q:VK),Inv X pins σ H s→t σ H Q→wpAny (model X.prog X.w) X.A (eval e X.env) (EP X pins σ Q) X.xe s
def PT(X:Cx)(e:Expr)(t:TT):Prop:=
 ∀(pins:List (Addr×Obj)) (s:Shared) (σ:St) (H:Hp) (Q:Bool→Hp→Prop),Inv X pins σ H s→t σ H Q→wpAny (model X.prog X.w) X.A (isTrue e X.env (eval e X.env)) (TP X pins σ Q) X.xe s
def PW(X:Cx)(e:Expr)(t:TT):Prop:=
 ∀(whole:Sem Value) (pins:List (Addr×Obj)) (s:Shared) (σ:St) (H:Hp) (Q:Bool→Hp→Prop),Inv X pins σ H s→t σ H Q→wpAny (model X.prog X.w) X.A (isTrue e X.env whole) (TP X pins σ Q) X.xe s
theorem PW.pt{X:Cx}{e:Expr}{t:TT}(h:PW X e t):PT X e t:=h _
def PA(X:Cx)(es:List Expr)(t:TA):Prop:=
 ∀(pos:Pos) (pins:List (Addr×Obj)) (s:Shared) (σ:St) (H:Hp) (Q:List V→Hp→Prop),Inv X pins σ H s→t σ H Q→wpAny (model X.prog X.w) X.A (spliced (backTo pos (starEach es X.env))) (AP X pins σ Q) X.xe s
def PS(X:Cx)(st:Stmt)(t:TS):Prop:=
 ∀(pins:List (Addr×Obj)) (s:Shared) (σ:St) (H:Hp) (D:Ends),Inv X pins σ H s→t D σ H→wpAny (model X.prog X.w) X.A (exec st X.env) (SP X pins D) X.xe s
def PSs(X:Cx)(st:List Stmt)(t:TS):Prop:=
 ∀(pins:List (Addr×Obj)) (s:Shared) (σ:St) (H:Hp) (D:Ends),Inv X pins σ H s→t D σ H→wpAny (model X.prog X.w) X.A (execs st X.env) (SP X pins D) X.xe s
theorem thn{α:Type}{t:Sem α}{Q Q':α→Shared→Prop}{M:Model}{A:Around}{E:Value→Shared→Prop}{s:Shared}(h:wpAny M A t Q E s)(hQ:∀a s,Q a s→Q' a s):wpAny M A t Q' E s:=wpAny_mono h hQ fun _ _ x=>x
section
variable{X:Cx}
theorem bin{a b:Expr}{ta tb:TE}(ha:PE X a ta)(hb:PE X b tb){pins:List (Addr×Obj)}{s:Shared}{σ:St}{H:Hp}{R:V→V→Hp→Prop}(I:Inv X pins σ H s)(h:ta σ H fun x H1=>tb σ H1 fun y H2=>R x y H2)
  {α:Type} {Q:α→Shared→Prop} {f:Value→Value→Sem α}
  (hf:∀v u s2 x y H2,Inv X pins σ H2 s2→RelV x v→RelV y u→R x y H2→wpAny (model X.prog X.w) X.A (f v u) Q X.xe s2):
  wpAny (model X.prog X.w) X.A (eval a X.env) (fun v s₁=>wpAny (model X.prog X.w) X.A (eval b X.env) (fun u s₂=>wpAny (model X.prog X.w) X.A (f v u) Q X.xe s₂) X.xe s₁) X.xe s:=by
 refine thn (ha pins s σ H _ I h) fun v s1 zz2=>?_
 obtain⟨x,H1,I1,r1,q1⟩:=zz2
 refine thn (hb pins s1 σ H1 _ I1 q1) fun u s2 zz3=>?_
 obtain⟨y,H2,I2,r2,q2⟩:=zz3
 exact hf v u s2 x y H2 I2 r1 r2 q2
def tVar(i:Nat):TE:=fun σ H Q=>∃v,σ[i]?=some (some v)∧Q v H
def tC(v:V):TE:=fun _ H Q=>Q v H
theorem Zl2{i:Nat}{x:Str}{pos:Pos}(hN:X.N[i]?=some x)(hv:Vis X.env.scope x)(hd:(x==("__debug__":Str))=false:=by decide)(hcd:(x==("__classdict__":Str))=false:=by decide):PE X (.Name x pos) (tVar i):=by
 intro pins s σ H Q I h
 obtain⟨v,e,h⟩:=h
 obtain⟨m,hn,hl⟩:=I.loc
 obtain⟨u,r,l⟩:=hl i x v hN e hv
 have fin:EP X pins σ Q u s:=⟨v,H,I,r,h⟩
 rcases l with⟨hk,hm⟩ | ⟨hk,c,hc,hcell⟩
 ·exact wpAny_Name (wpAny_loadName_local I.ok.kind hk hn hm fin) hd
 ·rcases hk with hk | hk
  ·exact wpAny_Name (wpAny_loadName_cell I.ok.kind hk hc hcell fin) hd
  ·exact wpAny_Name (wpAny_loadName_free I.ok.kind hk hc hcell fin hcd) hd
theorem Zj4{i j pos}:PE X (.Constant (.int i) j pos) (tC (.int i)):=fun _ _ _ H _ I h=>wpAny_Constant_int ⟨.int i,H,I.tok _,⟨_,rfl⟩,h⟩
theorem Y71{b j pos}:PE X (.Constant (.bool b) j pos) (tC (.bl b)):=fun _ _ _ H _ I h=>Constant_bool ⟨.bl b,H,I,rfl,h⟩
theorem Zy7{j pos}:PE X (.Constant .none j pos) (tC .non):=fun _ _ _ H _ I h=>Constant_none ⟨.non,H,I,rfl,h⟩
theorem Y08{x j pos}:PE X (.Constant (.str x) j pos) (tC (.str x)):=fun _ _ _ H _ I h=>Calls.Constant_str ⟨.str x,H,I.tok _,⟨_,rfl⟩,h⟩
def Gl(X:Cx)(x:Str):Prop:=X.env.kindOf x=some .globalImplicit
theorem Gb{E:Value→Shared→Prop}{pins:List (Addr×Obj)}{s:Shared}{σ:St}{H:Hp}{x:Str}{u:Value}{pos:Pos}{Q:Value→Shared→Prop}(I:Inv X pins σ H s)(hg:Gl X x)(hm:X.mg x=some u)(h:Q u s)
  (hd:(x==("__debug__":Str))=false:=by decide):wpAny (model X.prog X.w) X.A (eval (.Name x pos) X.env) Q E s:=
 Calls.Name_function_global I.ok.kind hg (Calls.loadGlobal_global (by rw[I.ok.glob];exact I.mod.glob.keeps I.bk) hm h) hd
theorem Sf{E:Value→Shared→Prop}{pins:List (Addr×Obj)}{s:Shared}{σ:St}{H:Hp}{x:Str}{u:Value}{pos:Pos}{Q:Value→Shared→Prop}(I:Inv X pins σ H s)(hg:Gl X x)(hm:X.mg x=none)(hv:bootBuiltins x=some u)(h:Q u s)
  (hn:x≠"__name__":=by decide) (hd:(x==("__debug__":Str))=false:=by decide):wpAny (model X.prog X.w) X.A (eval (.Name x pos) X.env) Q E s:=by
 obtain⟨mb,h1,h2⟩:=I.mod.blt
 exact Calls.Name_function_global I.ok.kind hg (Calls.loadGlobal_builtin (by rw[I.ok.glob];exact I.mod.glob.keeps I.bk) hm (by rw[I.ok.blt];exact h1.keeps I.bk) ((h2 x hn).trans hv) h) hd
theorem Zm1{x:Str}{v:V}{u:Value}{pos:Pos}(hg:Gl X x)(hm:X.mg x=some u)(r:RelV v u)(hd:(x==("__debug__":Str))=false:=by decide):PE X (.Name x pos) (tC v):=
 fun _ _ _ H _ I h=>Gb I hg hm ⟨v,H,I,r,h⟩ hd
theorem Zm8{x:Str}{v:V}{u:Value}{pos:Pos}(hg:Gl X x)(hm:X.mg x=none)(hv:bootBuiltins x=some u)(r:RelV v u)(hn:x≠"__name__":=by decide)(hd:(x==("__debug__":Str))=false:=by decide):PE X (.Name x pos) (tC v):=
 fun _ _ _ H _ I h=>Sf I hg hm hv ⟨v,H,I,r,h⟩ hn hd
variable{a b:Expr}{ta tb:TE}{pos:Pos}
variable{tA tB':TT}{rest:List Expr}
def tAnd(t u:TT):TT:=fun σ H Q=>t σ H fun c H1=>if c=true then u σ H1 Q else Q false H1
def tOr(t u:TT):TT:=fun σ H Q=>t σ H fun c H1=>if c=true then Q true H1 else u σ H1 Q
def tNot(t:TT):TT:=fun σ H Q=>t σ H fun c H1=>Q (!c) H1
theorem Zw1(ha:PT X a tA):PW X (.BoolOp .And [a] pos) tA:=by
 intro wh pins s σ H Q I h
 refine isTrue_and (thn (ha pins s σ H Q I h) fun c s1 e=>?_)
 cases c with
 | true=>exact isTrue_and_nil e
 | false=>exact e
theorem Y35(ha:PT X a tA):PW X (.BoolOp .Or [a] pos) tA:=by
 intro wh pins s σ H Q I h
 refine isTrue_or (thn (ha pins s σ H Q I h) fun c s1 e=>?_)
 cases c with
 | false=>exact isTrue_or_nil e
 | true=>exact e
theorem Zx8(ha:PT X a tA)(hb:PW X (.BoolOp .And (b::rest) pos) tB'):PW X (.BoolOp .And (a::b::rest) pos) (tAnd tA tB'):=by
 intro wh pins s σ H Q I h
 refine isTrue_and (thn (ha pins s σ H _ I h) fun c s1 zz4=>?_)
 obtain⟨H1,I1,q1⟩:=zz4
 cases c with
 | true=>exact hb wh pins s1 σ H1 Q I1 q1
 | false=>exact⟨H1,I1,q1⟩
theorem Y69(ha:PT X a tA)(hb:PW X (.BoolOp .Or (b::rest) pos) tB'):PW X (.BoolOp .Or (a::b::rest) pos) (tOr tA tB'):=by
 intro wh pins s σ H Q I h
 refine isTrue_or (thn (ha pins s σ H _ I h) fun c s1 zz5=>?_)
 obtain⟨H1,I1,q1⟩:=zz5
 cases c with
 | true=>exact⟨H1,I1,q1⟩
 | false=>exact hb wh pins s1 σ H1 Q I1 q1
theorem Y44(ha:PT X a tA):PT X (.UnaryOp .Not a pos) (tNot tA):=by
 intro pins s σ H Q I h
 exact isTrue_not (ha pins s σ H (fun c H1=>Q (!c) H1) I h)
theorem Zz5{op}{t:TE}(h:PE X a t):PE X (.BoolOp op [a] pos) t:=fun pins s σ H Q I hw=>BoolOp_one (h pins s σ H Q I hw)
def tIf(t:TT)(ta tb:TE):TE:=fun σ H Q=>t σ H fun c H1=>if c=true then ta σ H1 Q else tb σ H1 Q
theorem Za2{c:Expr}(hc:PT X c tA)(ha:PE X a ta)(hb:PE X b tb):PE X (.IfExp c a b pos) (tIf tA ta tb):=by
 intro pins s σ H Q I h
 refine wpAny_IfExp (thn (hc pins s σ H _ I h) fun d s1 zz6=>?_)
 obtain⟨H1,I1,q1⟩:=zz6
 cases d with
 | true=>exact ha pins s1 σ H1 Q I1 q1
 | false=>exact hb pins s1 σ H1 Q I1 q1
end
def SqL(K:PySem.W.Frag)(H:Hp)(a:Addr)(xs:List V):Prop:=
 Rd H a (.lst xs)∨
  ∃(o:Obj) (its:Array Value) (n:Nat),K.lookup a=some o∧o.cls= .type "list"∧o.dict=none∧o.data= .seq its n∧its.size≤sizeLine∧Vals xs its.toList
def SqT(K:PySem.W.Frag)(H:Hp)(a:Addr)(xs:List V):Prop:=
 Rd H a (.tup xs)∨
  ∃(o:Obj) (its:Array Value) (n:Nat),K.lookup a=some o∧o.cls= .type "tuple"∧o.data= .seq its n∧its.size≤sizeLine∧Vals xs its.toList
noncomputable def absV:Value→Option V
 | .none=>some .non
 | .bool b=>some (.bl b)
 | .int i _=>some (.int i)
 | .str x _=>some (.str x)
 | .bytes b _=>some (.byt b)
 | .float b _=>some (.flt b)
 | .ref a=>some (.ref a)
 | .type n=>some (.ty n)
 | _=>none
theorem RelV.abs{x:V}{u:Value}(r:RelV x u):absV u=some x:=by
 cases x with
 | non=>cases r;rfl
 | bl _=>cases r;rfl
 | int _=>obtain⟨t,rfl⟩:=r;rfl
 | str _=>obtain⟨t,rfl⟩:=r;rfl
 | byt _=>obtain⟨t,rfl⟩:=r;rfl
 | flt _=>obtain⟨t,rfl⟩:=r;rfl
 | ref _=>cases r;rfl
 | ty _=>cases r;rfl
theorem RelV.inj{x y:V}{u:Value}(r:RelV x u)(q:RelV y u):x=y:=Option.some.inj (r.abs.symm.trans q.abs)
theorem Vals.inj:∀{xs ys:List V} {us:List Value},Vals xs us→Vals ys us→xs=ys
 | _,_,_,.nil,.nil=>rfl
 | _,_,_,.cons r t,.cons r' t'=>by rw[r.inj r',Vals.inj t t']
section
variable{X:Cx}{pins:List (Addr×Obj)}{σ:St}{H:Hp}{s:Shared}{a:Addr}{xs ys:List V}
theorem SqT.of{K:PySem.W.Frag}(h:H a=some (.tup xs)):SqT K H a xs:= .inl (.inl h)
theorem Inv.list(I:Inv X pins σ H s)(h:SqL X.K H a xs):∃its:List Value,Vals xs its∧PlainL s.heap a its.toArray∧xs.length≤sizeLine:=by
 rcases h with h | ⟨o,its,n,hk,hc,hd,hs,hz,r⟩
 ·obtain⟨z,its,n,r,e⟩:=h.ok I.hok
  exact⟨its,r,⟨_,n,e,rfl,rfl,rfl⟩,z⟩
 ·refine⟨its.toList,r,⟨o,n,I.kIn a o hk,hc,hd,by simpa using hs⟩,?_⟩
  have e:=r.length
  simp only[Array.length_toList] at e
  omega
theorem Inv.tuple(I:Inv X pins σ H s)(h:SqT X.K H a xs):∃its:List Value,Vals xs its∧IsTup s.heap a its.toArray∧xs.length≤sizeLine:=by
 rcases h with h | ⟨o,its,n,hk,hc,hs,hz,r⟩
 ·obtain⟨z,its,r,p⟩:=h.ok I.hok
  exact⟨its,r,p,z⟩
 ·refine⟨its.toList,r,⟨o,I.kIn a o hk,hc,n,by simpa using hs⟩,?_⟩
  have e:=r.length
  simp only[Array.length_toList] at e
  omega
theorem Inv.list_inj(I:Inv X pins σ H s)(h:SqL X.K H a xs)(h':SqL X.K H a ys):xs=ys:=by
 obtain⟨its,r,⟨o,n,e,_,_,d⟩,_⟩:=I.list h
 obtain⟨its',r',⟨o',n',e',_,_,d'⟩,_⟩:=I.list h'
 rw[e] at e';cases e'
 rw[d] at d'
 injection d' with d1 _
 have:its=its':=by simpa using congrArg Array.toList d1
 subst this
 exact r.inj r'
theorem Inv.tuple_inj(I:Inv X pins σ H s)(h:SqT X.K H a xs)(h':SqT X.K H a ys):xs=ys:=by
 obtain⟨its,r,⟨o,e,_,n,d⟩,_⟩:=I.tuple h
 obtain⟨its',r',⟨o',e',_,n',d'⟩,_⟩:=I.tuple h'
 rw[e] at e';cases e'
 rw[d] at d'
 injection d' with d1 _
 have:its=its':=by simpa using congrArg Array.toList d1
 subst this
 exact r.inj r'
end
abbrev Cx.wish(X:Cx)(E:Value→Shared→Prop):Cx:={X with xe:=E}
noncomputable abbrev Cx.nox(X:Cx):Cx:=X.wish fun _ _=>False
theorem Cx.Ok.wish{X:Cx}(ok:X.Ok)(E:Value→Shared→Prop):(X.wish E).Ok:=
 ⟨ok.mod,ok.kind,ok.glob,ok.blt,ok.above,ok.inj,ok.has,ok.cab,ok.hd,ok.frames,ok.stk,ok.exf,ok.bs,ok.bsz,ok.noex,ok.exfs,ok.funs,ok.frf⟩
theorem Cx.Ok.unwish{X:Cx}{E:Value→Shared→Prop}(ok:(X.wish E).Ok):X.Ok:=
 ⟨ok.mod,ok.kind,ok.glob,ok.blt,ok.above,ok.inj,ok.has,ok.cab,ok.hd,ok.frames,ok.stk,ok.exf,ok.bs,ok.bsz,ok.noex,ok.exfs,ok.funs,ok.frf⟩
section
variable{X:Cx}{pins:List (Addr×Obj)}{σ:St}{H:Hp}{s:Shared}{E:Value→Shared→Prop}
theorem Inv.wish(I:Inv X pins σ H s)(E:Value→Shared→Prop):Inv (X.wish E) pins σ H s:=⟨I.ok.wish E,I.os,I.bare,I.base,I.loc,I.cell,I.free,I.freeC,I.pin,I.hok,I.len⟩
theorem Inv.unwish(I:Inv (X.wish E) pins σ H s):Inv X pins σ H s:=⟨I.ok.unwish,I.os,I.bare,I.base,I.loc,I.cell,I.free,I.freeC,I.pin,I.hok,I.len⟩
theorem SP.unwish{D:Ends}{f:Flow}{s':Shared}(h:SP (X.wish E) pins D f s'):SP X pins D f s':=by
 cases f with
 | next=>obtain⟨σ',H',I,q⟩:=h;exact⟨σ',H',I.unwish,q⟩
 | brk=>obtain⟨σ',H',I,q⟩:=h;exact⟨σ',H',I.unwish,q⟩
 | cont=>obtain⟨σ',H',I,q⟩:=h;exact⟨σ',H',I.unwish,q⟩
 | ret u=>obtain⟨v,σ',H',I,r,q⟩:=h;exact⟨v,σ',H',I.unwish,r,q⟩
theorem PSs.nox{st:List Stmt}{t:TS}(h:PSs X.nox st t):PSs X st t:=fun pins s σ H D I hw=>
 wpAny_mono (h pins s σ H D (I.wish _) hw) (fun _ _ q=>q.unwish) fun _ _ z=>False.elim z
end
section
variable{X:Cx}{st:Stmt}{rest:List Stmt}{t u:TS}{e:Expr}{te:TE}{pos:Pos}
def Y81:TS:=fun D σ H=>D.nx σ H
def tSeq(t u:TS):TS:=fun D σ H=>t {D with nx:=u D} σ H
theorem Zl8:PSs X [] Y81:=fun _ _ σ H _ I h=>wpAny_execs_nil ⟨σ,H,I,h⟩
theorem Oa(h1:PS X st t)(h2:PSs X rest u):PSs X (st::rest) (tSeq t u):=by
 intro pins s σ H D I h
 refine wpAny_execs_cons (thn (h1 pins s σ H {D with nx:=u D} I h) fun f s1 q=>?_)
 cases f with
 | next=>
  obtain⟨σ',H',I',q⟩:=q
  exact h2 pins s1 σ' H' D I' q
 | ret v=>exact q
 | brk=>exact q
 | cont=>exact q
theorem Zq6(h1:PS X st t):PSs X [st] t:=by
 intro pins s σ H D I h
 refine wpAny_execs_cons (thn (h1 pins s σ H D I h) fun f s1 q=>?_)
 cases f with
 | next=>exact wpAny_execs_nil q
 | ret v=>exact q
 | brk=>exact q
 | cont=>exact q
theorem Inv.quiet{pins:List (Addr×Obj)}{σ:St}{H:Hp}{s:Shared}(I:Inv X pins σ H s):interactive X.env=false:=by simp[interactive,I.ok.kind]
def Y80(te:TE):TS:=fun D σ H=>te σ H fun _ H1=>D.nx σ H1
theorem Zu4(he:PE X e te)(hs:swapsWith e none pos.line X.env=pure false:=by rfl):PS X (.Expr e pos) (Y80 te):=by
 intro pins s σ H D I h
 exact wpAny_Expr_any (thn (he pins s σ H _ I h) fun v s1 zz7=>by obtain⟨x,H1,I1,r1,q1⟩:=zz7;exact⟨σ,H1,I1,q1⟩) I.quiet hs
def tRet(te:TE):TS:=fun D σ H=>te σ H D.rt
theorem Zk1(he:PE X e te):PS X (.Return (some e) pos) (tRet te):=by
 intro pins s σ H D I h
 exact wpAny_Return_some (thn (he pins s σ H _ I h) fun v s1 zz8=>by obtain⟨x,H1,I1,r1,q1⟩:=zz8;exact⟨x,σ,H1,I1,r1,q1⟩)
def tIfS(c:TT)(t u:TS):TS:=fun D σ H=>c σ H fun b H1=>if b=true then t D σ H1 else u D σ H1
theorem Y68{c:Expr}{a b:List Stmt}{tc:TT}(hc:PT X c tc)(ha:PSs X a t)(hb:PSs X b u):PS X (.If c a b pos) (tIfS tc t u):=by
 intro pins s σ H D I h
 refine wpAny_If (thn (hc pins s σ H _ I h) fun d s1 zz9=>?_)
 obtain⟨H1,I1,q1⟩:=zz9
 cases d with
 | true=>exact ha pins s1 σ H1 D I1 q1
 | false=>exact hb pins s1 σ H1 D I1 q1
end
abbrev TG:=V→St→Hp→(St→Hp→Prop)→Prop
abbrev TGs:=List V→St→Hp→(St→Hp→Prop)→Prop
def PG(X:Cx)(target:Expr)(t:TG):Prop:=
 ∀(pins:List (Addr×Obj)) (s:Shared) (σ:St) (H:Hp) (v:V) (u:Value) (Q:St→Hp→Prop),Inv X pins σ H s→RelV v u→t v σ H Q→
  wpAny (model X.prog X.w) X.A (assign target X.env u) (fun _ s'=>∃σ' H',Inv X pins σ' H' s'∧Q σ' H') X.xe s
def PGs(X:Cx)(ts:List Expr)(t:TGs):Prop:=
 ∀(pins:List (Addr×Obj)) (s:Shared) (σ:St) (H:Hp) (vs:List V) (us:List Value) (Q:St→Hp→Prop),Inv X pins σ H s→Vals vs us→t vs σ H Q→
  wpAny (model X.prog X.w) X.A (assignInOrder ((assignEach ts X.env).map (·.2)) us) (fun _ s'=>∃σ' H',Inv X pins σ' H' s'∧Q σ' H') X.xe s
abbrev TSet:=V→V→V→Hp→(Hp→Prop)→Prop
def PSet(X:Cx)(t:TSet):Prop:=
 ∀(pins:List (Addr×Obj)) (s:Shared) (σ:St) (H:Hp) (o i v:V) (ov iv u:Value) (Q:Hp→Prop),Inv X pins σ H s→RelV o ov→RelV i iv→RelV v u→t o i v H Q→
  wpAny (model X.prog X.w) X.A (setItem ov iv u) (fun _ s'=>∃H',Inv X pins σ H' s'∧Q H') X.xe s
section
variable{X:Cx}{pos:Pos}
noncomputable def Za9(i:Nat):TG:=fun v σ H Q=>Q (σ.set i (some v)) H
theorem Zr0{i:Nat}{x:Str}(hN:X.N.Nodup)(hi:X.N[i]?=some x)(hx:Loc X.env.scope x)(hf:X.fn x=true∨X.env.scope.names.lookup x=some .local:=by first | exact .inl rfl | exact .inr rfl | assumption):PG X (.Name x pos) (Za9 i):=by
 intro pins s σ H v u Q I r h
 exact wpAny_assign_Name (Zh3 I hN hi hx r (fun s' I'=>⟨_,H,I',h⟩) hf)
noncomputable def gNil:TGs:=fun vs σ H Q=>vs=[]∧Q σ H
noncomputable def Y15(t:TG)(u:TGs):TGs:=fun vs σ H Q=>∃v r,vs=v::r∧t v σ H fun σ' H'=>u r σ' H' Q
theorem Zv3:PGs X [] gNil:=by
 intro pins s σ H vs us Q I r h
 obtain⟨e,h⟩:=h
 subst e
 cases r
 exact assignInOrder_nil ⟨σ,H,I,h⟩
theorem Zd1{e:Expr}{es:List Expr}{t:TG}{u:TGs}(h1:PG X e t)(h2:PGs X es u)
  (hs:(assignEach (e::es) X.env).map (·.2)=assign e X.env::(assignEach es X.env).map (·.2):=by rfl):PGs X (e::es) (Y15 t u):=by
 intro pins s σ H vs us Q I r h
 obtain⟨v,vr,e1,h⟩:=h
 subst e1
 cases r with
 | cons r rr=>
  rw[hs]
  refine assignInOrder_cons (thn (h1 pins s σ H _ _ _ I r h) fun _ s1 zz10=>?_)
  obtain⟨σ1,H1,I1,q1⟩:=zz10
  exact h2 pins s1 σ1 H1 _ _ Q I1 rr q1
noncomputable def gTup(K:PySem.W.Frag)(n:Nat)(t:TGs):TG:=fun v σ H Q=>∃a xs,v= .ref a∧SqT K H a xs∧xs.length=n∧t xs σ H Q
theorem Zy9{es:List Expr}{k:Nat}{t:TGs}{n:Nat}(hc:X.calm=true)(h:PGs X es t)
  (hn:(assignEach es X.env).length=n:=by rfl) (hst:(assignEach es X.env).findIdx? (·.1)=none:=by rfl):PG X (.Tuple es k pos) (gTup X.K n t):=by
 intro pins s σ H v u Q I r hw
 obtain⟨a,xs,e1,hq,hl,hw⟩:=hw
 subst e1
 cases r
 obtain⟨its,rv,ht,hz⟩:=I.tuple hq
 refine assign_Tuple_tuple (I.ok.hd hc) ht (by simp[hn,←hl,rv.length]) hst fun h' hx=>?_
 have I1:Inv X pins σ H {s with heap:=h'}:=I.kept (t':=s.toks) fun b o e=>hx b o (Nat.ne_of_lt (Heap.lt_size e)) e
 exact h pins _ σ H xs _ Q I1 (by simpa using rv) hw
def tAsg(te:TE)(g:TG):TS:=fun D σ H=>te σ H fun x H1=>g x σ H1 D.nx
theorem Zj9{tg e:Expr}{te:TE}{g:TG}(he:PE X e te)(hg:PG X tg g)(hs:swapsWithSole [tg] e pos.line X.env=pure false:=by rfl)(hw:swappedStores [tg] e X.env=pure none:=by rfl)
  (h1:(assignEach [tg] X.env).map (·.2)=[assign tg X.env]:=by rfl):PS X (.Assign [tg] e pos) (tAsg te g):=by
 intro pins s σ H D I h
 refine wpAny_Assign_stores (thn (he pins s σ H _ I h) fun v s1 zz11=>?_) hs hw
 obtain⟨x,H1,I1,r1,q1⟩:=zz11
 rw[h1]
 exact thn (hg pins s1 σ H1 x v _ I1 r1 q1) fun _ s2 q=>q
end
section
variable{X:Cx}{pos:Pos}
def Y34(c:TT)(tb:TS):TS:=fun D σ H=>∃W:Nat→St→Hp→Prop,(∃m,W m σ H)∧∀m σ H,W m σ H→
 c σ H fun b H1=>if b=true then ∃N:St→Hp→Prop,(∀σ' H',N σ' H'→∃m',m'<m∧W m' σ' H')∧tb {D with nx:=N,ct:=N,bk:=D.nx} σ H1 else D.nx σ H1
theorem Zc6{c:Expr}{body:List Stmt}{tc:TT}{tb:TS}(hp:PassesOwn (model X.prog X.w) X.A X.env X.xe)(hc:PT X c tc)(hb:PSs X body tb):PS X (.While c body [] pos) (Y34 tc tb):=by
 intro pins s σ H D I h
 obtain⟨W,⟨m0,w0⟩,turn⟩:=h
 refine wpAny_While (codeAny_whileLoop (fun n s'=>∃σ' H',Inv X pins σ' H' s'∧W n σ' H') ?_ m0 ⟨σ,H,I,w0⟩)
 rintro n s1 ⟨σ1,H1,I1,w1⟩
 refine wpAny_passesOwn hp (thn (hc pins s1 σ1 H1 _ I1 (turn n σ1 H1 w1)) fun b s2 zz12=>?_)
 obtain⟨H2,I2,q2⟩:=zz12
 cases b with
 | true=>
  obtain⟨N,hN,q2⟩:=q2
  rw[if_pos rfl]
  refine wpAny_passesOwn hp (thn (hb pins s2 σ1 H2 _ I2 q2) fun f s3 q3=>?_)
  cases f with
  | next=>
   obtain⟨σ3,H3,I3,n3⟩:=q3
   obtain⟨m',hm,w3⟩:=hN σ3 H3 n3
   exact⟨m',hm,σ3,H3,I3,w3⟩
  | cont=>
   obtain⟨σ3,H3,I3,n3⟩:=q3
   obtain⟨m',hm,w3⟩:=hN σ3 H3 n3
   exact⟨m',hm,σ3,H3,I3,w3⟩
  | brk=>exact q3
  | ret v=>exact q3
 | false=>
  rw[if_neg Bool.false_ne_true]
  exact wpAny_execs_nil ⟨σ1,H2,I2,q2⟩
end
structure It where
 go:Nat→Hp→Prop
 yld:Nat→Hp→V→Hp→Prop
 stop:Nat→Hp→Prop
def FpOk(X:Cx)(pins:List (Addr×Obj))(H:Hp)(b:Addr):Prop:=
 H b=none∧b≠X.env.locals∧b∉X.fs∧(b∈X.ex∨X.s₀.heap.objs.size≤b)∧(∀x c,X.env.cells.lookup x=some c→c≠b)∧∀p∈X.pn++pins,p.1≠b
theorem Inv.fpOk{X:Cx}{pins:List (Addr×Obj)}{σ:St}{H H':Hp}{s:Shared}{b:Addr}(I:Inv X pins σ H s)(hb:s.heap.objs.size≤b)(hn:H' b=none):FpOk X pins H' b:=by
 refine⟨hn,Nat.ne_of_gt (Nat.lt_of_lt_of_le I.lt hb),I.nofs hb,.inr (Nat.le_trans I.sz hb),fun x c e z=>?_,fun p hp z=>?_⟩
 ·obtain⟨v,q⟩:=I.cell x c e
  exact absurd (Nat.lt_of_lt_of_le q.lt (by rw[z];exact hb)) (Nat.lt_irrefl _)
 ·exact absurd (Nat.lt_of_lt_of_le (Heap.lt_size (I.pin p hp).1) (by rw[z];exact hb)) (Nat.lt_irrefl _)
structure Turn(P:Program)(w:World)(K:PySem.W.Frag)(tg:Expr)(J:It)(fp:List Addr)(it:Addr)(tn:Nat→Heap→Prop):Prop where
 mem:it∈fp
 obj:∀i h,tn i h→∀b∈fp,∃o,h.get? b=some o∧∀v,o.data≠ .cell v
 keep:∀i h h',tn i h→(∀b∈fp,∀o,h.get? b=some o→h'.get? b=some o)→tn i h'
 item:∀(X:Cx),X.prog=P→X.w=w→X.K=K→X.calm=true→∀(i:Nat) (pins:List (Addr×Obj)) (s:Shared) (σ:St) (H:Hp) (E:Value→Shared→Prop),Inv X pins σ H s→(∀b∈fp,FpOk X pins H b)→tn i s.heap→J.go i H→
  wpAny (model P w) X.A (pyNext (.ref it)) (fun r s1=>∃u,r=some u∧
   wpAny (model P w) X.A (letOwnedTupleGo tg (.ref it) u) (fun _ s2=>∃x H',Inv X pins σ H' s2∧RelV x u∧J.yld i H x H'∧tn (i+1) s2.heap∧∀b∈fp,H' b=none) E s1) E s
 done:∀(X:Cx),X.prog=P→X.w=w→X.K=K→X.calm=true→∀(i:Nat) (pins:List (Addr×Obj)) (s:Shared) (σ:St) (H:Hp) (E:Value→Shared→Prop),Inv X pins σ H s→(∀b∈fp,FpOk X pins H b)→tn i s.heap→J.stop i H→
  wpAny (model P w) X.A (pyNext (.ref it)) (fun r s1=>r=none∧Inv X pins σ H s1) E s
 self:∀(A:Around) (i:Nat) (s:Shared) (Q:Value→Shared→Prop) (E:Value→Shared→Prop),tn i s.heap→Q (.ref it) s→wpAny (model P w) A (pyIter (.ref it)) Q E s
abbrev TI:=St→Hp→(It→Hp→Prop)→Prop
def PIE(X:Cx)(pins:List (Addr×Obj))(σ:St)(tg:Expr)(R:It→Hp→Prop)(itv:Value)(s2:Shared):Prop:=
 ∃(it:Addr) (fp:List Addr) (tn:Nat→Heap→Prop) (J:It) (H':Hp),itv= .ref it∧Inv X pins σ H' s2∧Turn X.prog X.w X.K tg J fp it tn∧tn 0 s2.heap∧(∀b∈fp,FpOk X pins H' b)∧R J H'
def PI(X:Cx)(tg iter:Expr)(wi:TI):Prop:=
 ∀(pins:List (Addr×Obj)) (s:Shared) (σ:St) (H:Hp) (R:It→Hp→Prop),Inv X pins σ H s→wi σ H R→
  wpAny (model X.prog X.w) X.A (eval iter X.env) (fun v s1=>wpAny (model X.prog X.w) X.A (pyIter v) (PIE X pins σ tg R) X.xe s1) X.xe s
theorem Zd9{M:Model}{A:Around}{E:Value→Shared→Prop}{s:Shared}{tg:Expr}{it:Addr}{u:Value}{o:Obj}{n:String}{vs:Array Value}{Q:Unit→Shared→Prop}(ho:s.heap.get? it=some o)(hc:o.cls= .type n)(hd:o.data= .fields vs)
  (hn:["enumerate","zip","dict_itemiterator","dict_reverseitemiterator","odict_iterator","itertools.zip_longest","itertools.pairwise"].contains n=false) (hQ:Q () s):wpAny M A (letOwnedTupleGo tg (.ref it) u) Q E s:=by
 unfold letOwnedTupleGo
 cases tg<;>first
  | exact wpAny_pure hQ
  |(cases u<;>first
    | exact wpAny_pure hQ
    |(refine wpAny_bind (wpAny_load ho ?_)
      rw[hc,hd]
      show wpAny M A (if (["enumerate","zip","dict_itemiterator","dict_reverseitemiterator","odict_iterator","itertools.zip_longest","itertools.pairwise"].contains n&&vs[0]?==some (rawInt _))=true then _ else _) Q E s
      rw[if_neg (by intro h;rw[hn,Bool.false_and] at h;cases h)]
      exact wpAny_pure hQ))
noncomputable def Itl(K:PySem.W.Frag)(a:Addr):It:=
 ⟨fun i H=>∃xs x,SqL K H a xs∧xs[i]?=some x,fun i H x H'=>H'=H∧∀xs,SqL K H a xs→xs[i]?=some x,fun i H=>∃xs,SqL K H a xs∧xs.length≤i⟩
noncomputable def Itt(K:PySem.W.Frag)(a:Addr):It:=
 ⟨fun i H=>∃xs x,SqT K H a xs∧xs[i]?=some x,fun i H x H'=>H'=H∧∀xs,SqT K H a xs→xs[i]?=some x,fun i H=>∃xs,SqT K H a xs∧xs.length≤i⟩
noncomputable def Itr(lo:Int)(n:Nat):It:=⟨fun i _=>i<n,fun i H x H'=>H'=H∧x= .int (lo+i),fun i _=>n≤i⟩
theorem Z73{P:Program}{w:World}{K:PySem.W.Frag}{tg:Expr}(a it:Addr):Turn P w K tg (Itl K a) [it] it (fun i h=>h.IsListIter it a i) where
 mem:=by simp
 obj:=fun i h st b hb=>by
  have e:b=it:=by simpa using hb
  subst e
  obtain⟨o,e,c,d⟩:=st
  exact⟨o,e,fun v z=>by rw[d] at z;cases z⟩
 keep:=fun i h h' st k=>st.at fun o e=>k it (by simp) o e
 item:=by
  intro X hP hw hK hc i pins s σ H E I hf st hg
  subst hP hw hK
  obtain⟨xs,x,hq,hx⟩:=hg
  obtain⟨its,rv,p,hz⟩:=I.list hq
  obtain⟨u,hu,ru⟩:=rv.get hx
  obtain⟨f0,f1,f2,f3,f4,f5⟩:=hf it (by simp)
  refine wpAny_pyNext_list_item st p.isList (x:=u) (by simpa using hu) fun h' st' sb=>?_
  have I1:Inv X pins σ H {s with heap:=h'}:=I.turned (t':=s.toks) (fun b o hb e=>(sb.2 b hb).trans e) f0 f1 f3 f4 f5
  obtain⟨o,e,c,d⟩:=id st'
  exact⟨u,rfl,Zd9 (s:={s with heap:=h'}) e c d (by decide) ⟨x,H,I1,ru,⟨rfl,fun ys hy=>by rw[I.list_inj hy hq];exact hx⟩,st',fun b hb=>(hf b hb).1⟩⟩
 done:=by
  intro X hP hw hK hc i pins s σ H E I hf st hg
  subst hP hw hK
  obtain⟨xs,hq,hx⟩:=hg
  obtain⟨its,rv,p,hz⟩:=I.list hq
  obtain⟨f0,f1,f2,f3,f4,f5⟩:=hf it (by simp)
  have hl:=rv.length
  exact wpAny_pyNext_list_end (I.ok.hd hc) st p.isList (by simp;omega) fun h' eb=>⟨rfl,I.turned (t':=s.toks) (fun b o hb e=>eb b o hb e) f0 f1 f3 f4 f5⟩
 self:=fun _ _ _ _ _ st h=>wpAny_pyIter_listiter st h
theorem Cp{P:Program}{w:World}{K:PySem.W.Frag}{tg:Expr}(a it:Addr):Turn P w K tg (Itt K a) [it] it (fun i h=>h.IsTupleIter it a i) where
 mem:=by simp
 obj:=fun i h st b hb=>by
  have e:b=it:=by simpa using hb
  subst e
  obtain⟨o,e,c,d⟩:=st
  exact⟨o,e,fun v z=>by rw[d] at z;cases z⟩
 keep:=fun i h h' st k=>st.at fun o e=>k it (by simp) o e
 item:=by
  intro X hP hw hK hc i pins s σ H E I hf st hg
  subst hP hw hK
  obtain⟨xs,x,hq,hx⟩:=hg
  obtain⟨its,rv,p,hz⟩:=I.tuple hq
  obtain⟨u,hu,ru⟩:=rv.get hx
  obtain⟨f0,f1,f2,f3,f4,f5⟩:=hf it (by simp)
  refine wpAny_pyNext_tuple_item st (show s.heap.IsTuple a its.toArray from p) (x:=u) (by simpa using hu) fun h' st' sb=>?_
  have I1:Inv X pins σ H {s with heap:=h'}:=I.turned (t':=s.toks) (fun b o hb e=>(sb.2 b hb).trans e) f0 f1 f3 f4 f5
  obtain⟨o,e,c,d⟩:=id st'
  exact⟨u,rfl,Zd9 (s:={s with heap:=h'}) e c d (by decide) ⟨x,H,I1,ru,⟨rfl,fun ys hy=>by rw[I.tuple_inj hy hq];exact hx⟩,st',fun b hb=>(hf b hb).1⟩⟩
 done:=by
  intro X hP hw hK hc i pins s σ H E I hf st hg
  subst hP hw hK
  obtain⟨xs,hq,hx⟩:=hg
  obtain⟨its,rv,p,hz⟩:=I.tuple hq
  obtain⟨f0,f1,f2,f3,f4,f5⟩:=hf it (by simp)
  have hl:=rv.length
  exact wpAny_pyNext_tuple_end (I.ok.hd hc) st (show s.heap.IsTuple a its.toArray from p) (by simp;omega) fun h' eb=>⟨rfl,I.turned (t':=s.toks) (fun b o hb e=>eb b o hb e) f0 f1 f3 f4 f5⟩
 self:=fun _ _ _ _ _ st h=>wpAny_pyIter_tupleiter st h
theorem Et{P:Program}{w:World}{K:PySem.W.Frag}{tg:Expr}(it:Addr)(lo:Int)(n:Nat):Turn P w K tg (Itr lo n) [it] it (fun i h=>IsRangeIter h it (lo+(i:Nat) * 1) ((n:Int) - (i:Nat)) 1) where
 mem:=by simp
 obj:=fun i h st b hb=>by
  have e:b=it:=by simpa using hb
  subst e
  exact⟨_,st,fun v z=>by
   have z':Data.fields _=Data.cell v:=z
   cases z'⟩
 keep:=fun i h h' st k=>k it (by simp) _ st
 item:=by
  intro X hP hw hK hc i pins s σ H E I hf st hg
  subst hP hw hK
  obtain⟨f0,f1,f2,f3,f4,f5⟩:=hf it (by simp)
  have W:=Walks.range (prog:=X.prog) (w:=X.w) (I.ok.hd hc) it lo 1 n
  refine W.item i s _ _ hg st fun v h' tk hv st' kk=>?_
  obtain⟨t,rfl⟩:=hv
  have I1:Inv X pins σ H {s with heap:=h',toks:=tk}:=I.turned (fun b o hb e=>kk b o (by simpa using hb) e) f0 f1 f3 f4 f5
  refine⟨_,rfl,Zd9 (s:={s with heap:=h',toks:=tk}) (n:="range_iterator") st' rfl rfl (by decide) ⟨.int (lo+i),H,I1,⟨t,?_⟩,⟨rfl,rfl⟩,st',fun b hb=>(hf b hb).1⟩⟩
  rw[Int.mul_one]
 done:=by
  intro X hP hw hK hc i pins s σ H E I hf st hg
  subst hP hw hK
  obtain⟨f0,f1,f2,f3,f4,f5⟩:=hf it (by simp)
  exact wpAny_pyNext_range_end (I.ok.hd hc) st (by have:n≤i:=hg;omega) fun h' eb=>⟨rfl,I.turned (t':=s.toks) (fun b o hb e=>eb b o hb e) f0 f1 f3 f4 f5⟩
 self:=fun _ _ _ _ _ st h=>wpAny_pyIter_rangeiter st h
section
variable{X:Cx}{tg:Expr}
theorem E9{pins:List (Addr×Obj)}{σ:St}{H:Hp}{s:Shared}{R:It→Hp→Prop}{E:Value→Shared→Prop}{lo hi:Int}{t u v:Tok}{tk:Nat}(I:Inv X pins σ H s)(h1:-(2 ^ 62)≤lo)(h2:lo<2 ^ 62)(h3:-(2 ^ 62)≤hi)(h4:hi<2 ^ 62)
  (q:R (Itr lo (hi - lo).toNat) H):wpAny (model X.prog X.w) X.A (pyIter (.ref s.heap.objs.size)) (PIE X pins σ tg R) E {s with heap:=s.heap.push {cls:= .type "range",data:= .fields #[.int lo t,.int hi u,.int 1 v]},toks:=tk}:=by
 refine wpAny_pyIter_range (IsRange.new ..) (small_one h1 h2 h3 h4) ?_
 have I1:Inv X pins σ H {s with heap:=s.heap.push {cls:= .type "range",data:= .fields #[.int lo t,.int hi u,.int 1 v]},toks:=tk}:=I.kept fun b o e=>Heap.get?_push_of_some _ e
 refine⟨(s.heap.push {cls:= .type "range",data:= .fields #[.int lo t,.int hi u,.int 1 v]}).objs.size,[(s.heap.push {cls:= .type "range",data:= .fields #[.int lo t,.int hi u,.int 1 v]}).objs.size],_,_,H,rfl,
  I1.kept (t':=tk) fun b o e=>Heap.get?_push_of_some _ e,Et _ lo (hi - lo).toNat,?_,fun b hb=>?_,q⟩
 ·have e1:lo+((0:Nat):Int) * 1=lo:=by simp
  have e2:(((hi - lo).toNat:Nat):Int) - ((0:Nat):Int)=Builtin.Range.rangeSize lo hi 1:=by rw[rangeSize_one];split<;>omega
  show IsRangeIter _ _ (lo+((0:Nat):Int) * 1) ((((hi - lo).toNat:Nat):Int) - ((0:Nat):Int)) 1
  rw[e1,e2]
  exact Heap.get?_push_size _ rfl
 ·have e:b=(s.heap.push {cls:= .type "range",data:= .fields #[.int lo t,.int hi u,.int 1 v]}).objs.size:=by simpa using hb
  subst e
  exact I1.fpOk (Nat.le_refl _) (I1.hok.fresh (Nat.le_refl _))
def Y82(ta:TA):TI:=fun σ H R=>ta σ H fun vs H1=>∃j:Int,vs=[.int j]∧ -(2 ^ 62)≤j∧j<2 ^ 62∧R (Itr 0 j.toNat) H1
def Y74(ta:TA):TI:=fun σ H R=>ta σ H fun vs H1=>∃i j:Int,vs=[.int i,.int j]∧(-(2 ^ 62)≤i∧i<2 ^ 62∧ -(2 ^ 62)≤j∧j<2 ^ 62)∧R (Itr i (j - i).toNat) H1
theorem Z92{a:Expr}{ta:TA}{p pos:Pos}(hg:Gl X "range")(hm:X.mg "range"=none)(ha:PA X [a] ta)(hs:starEach [a] X.env=[(false,eval a X.env)]:=by rfl):PI X tg (.Call (.Name "range" p) [a] [] pos) (Y82 ta):=by
 intro pins s σ H R I h
 refine Call_ (Sf I hg hm boot_range (PyProof.Rows.callWith_type1 (thn (ha pos pins s σ H _ I h) fun us s1 zz13=>?_) hs rfl))
 obtain⟨vs,H1,I1,r1,q1⟩:=zz13
 obtain⟨j,e,q1,q2,q⟩:=q1
 subst e
 cases r1 with
 | cons r rr=>
  cases rr
  obtain⟨t,rfl⟩:=r
  exact call_range_1 (E9 I1 (by omega) (by omega) q1 q2 (by simpa using q))
theorem Z05{a b:Expr}{ta:TA}{p pos:Pos}(hg:Gl X "range")(hm:X.mg "range"=none)(ha:PA X [a,b] ta)(hs:starEach [a,b] X.env=[(false,eval a X.env),(false,eval b X.env)]:=by rfl)(hs2:starEach [b] X.env=[(false,eval b X.env)]:=by rfl):
  PI X tg (.Call (.Name "range" p) [a,b] [] pos) (Y74 ta):=by
 intro pins s σ H R I h
 refine Call_ (Sf I hg hm boot_range (PyProof.Rows.callWith_type1 (thn (ha pos pins s σ H _ I h) fun us s1 zz14=>?_) (by rw[hs,hs2]) (by rw[hs2];rfl)))
 obtain⟨vs,H1,I1,r1,q1⟩:=zz14
 obtain⟨i,j,e,⟨q1,q2,q3,q4⟩,q⟩:=q1
 subst e
 cases r1 with
 | cons r rr=>
  cases rr with
  | cons r' rr=>
   cases rr
   obtain⟨t,rfl⟩:=r
   obtain⟨t',rfl⟩:=r'
   exact call_range_2 (E9 I1 q1 q2 q3 q4 q)
def tFor(wi:TI)(g:TG)(tb:TS):TS:=fun D σ H=>wi σ H fun J H1=>∃W:Nat→Nat→St→Hp→Prop,(∃m,W 0 m σ H1)∧∀i m σ H,W i m σ H→
 (J.stop i H∧D.nx σ H)∨(J.go i H∧∃N:St→Hp→Prop,(∀σ' H',N σ' H'→∃m',m'<m∧W (i+1) m' σ' H')∧∀x H',J.yld i H x H'→g x σ H' fun σ2 H2=>tb {D with nx:=N,ct:=N,bk:=D.nx} σ2 H2)
noncomputable def Gx(fp:List Addr)(h:Heap):List (Addr×Obj):=fp.filterMap fun b=>(h.get? b).map fun o=>(b,o)
theorem X6{fp:List Addr}{h:Heap}{b:Addr}{o:Obj}(hb:b∈fp)(e:h.get? b=some o):(b,o)∈Gx fp h:=List.mem_filterMap.mpr ⟨b,hb,by rw[e];rfl⟩
theorem Bz{fp:List Addr}{h:Heap}{p:Addr×Obj}(hp:p∈Gx fp h):p.1∈fp∧h.get? p.1=some p.2:=by
 obtain⟨b,hb,e⟩:=List.mem_filterMap.mp hp
 cases q:h.get? b with
 | none=>rw[q] at e;cases e
 | some o=>
  rw[q] at e
  have e':(b,o)=p:=Option.some.inj e
  subst e'
  exact⟨hb,q⟩
theorem Inv.pinned{pins:List (Addr×Obj)}{σ:St}{H:Hp}{s:Shared}{fp:List Addr}(I:Inv X pins σ H s)(hf:∀b∈fp,FpOk X pins H b)(ho:∀b∈fp,∃o,s.heap.get? b=some o∧∀v,o.data≠ .cell v):Inv X (pins++Gx fp s.heap) σ H s:=
 I.pins_of fun p hp=>(List.mem_append.mp hp).elim (fun z=>I.pin p (List.mem_append_right _ z)) fun z=>by
  obtain⟨hb,e⟩:=Bz z
  obtain⟨f0,f1,f2,_⟩:=hf p.1 hb
  obtain⟨o,e',d⟩:=ho p.1 hb
  rw[e] at e';cases e'
  exact⟨e,f0,f1,f2,d⟩
theorem Inv.unpinned{pins pl:List (Addr×Obj)}{σ:St}{H:Hp}{s:Shared}(I:Inv X (pins++pl) σ H s):Inv X pins σ H s:=I.pins_of fun p hp=>I.pin p (List.mem_append_right _ (List.mem_append_left _ hp))
theorem Zj7{iter:Expr}{body:List Stmt}{wi:TI}{g:TG}{tb:TS}{pos:Pos}(hp:PassesOwn (model X.prog X.w) X.A X.env X.xe)(hc:X.calm=true)(hi:PI X tg iter wi)(hg:PG X tg g)(hb:PSs X body tb)
  (hs:∀x,foldedSetIterable iter X.env x=pure x:=by intro _;rfl):PS X (.For tg iter body [] pos) (tFor wi g tb):=by
 intro pins s σ H D I h
 refine wpAny_For (thn (hi pins s σ H _ I h) fun v s1 h1=>thn h1 fun itv s2 h2=>?_) hs
 obtain⟨it,fp,tn,J,H2,e,I2,T,st2,f2,W,⟨m0,w0⟩,turn⟩:=h2
 subst e
 have stat:∀{H':Hp},(∀b∈fp,H' b=none)→∀b∈fp,FpOk X pins H' b:=fun hn b hb=>⟨hn b hb,(f2 b hb).2⟩
 refine codeAny_forLoop_any (fun n s'=>∃i σ' H',Inv X pins σ' H' s'∧tn i s'.heap∧(∀b∈fp,H' b=none)∧W i n σ' H') ?_ m0 ⟨0,σ,H2,I2,st2,fun b hb=>(f2 b hb).1,w0⟩
 rintro n s3 ⟨i,σ3,H3,I3,st3,fr3,w3⟩
 rcases turn i n σ3 H3 w3 with⟨stop,qn⟩ | ⟨go,N,hN,step⟩
 ·refine wpAny_passesOwn hp (thn (T.done X rfl rfl rfl hc i pins s3 σ3 H3 X.xe I3 (stat fr3) st3 stop) fun r s4 zz15=>?_)
  obtain⟨hr,I4⟩:=zz15
  subst hr
  exact wpAny_execs_nil ⟨σ3,H3,I4,qn⟩
 ·refine wpAny_passesOwn hp (thn (T.item X rfl rfl rfl hc i pins s3 σ3 H3 X.xe I3 (stat fr3) st3 go) fun r s4 zz16=>?_)
  obtain⟨u,hr,h4⟩:=zz16
  subst hr
  refine wpAny_passesOwn hp (thn h4 fun _ s5 zz17=>?_)
  obtain⟨x,H5,I5,r5,y5,st5,fr5⟩:=zz17
  have I5':=I5.pinned (stat fr5) (T.obj _ _ st5)
  refine wpAny_passesOwn hp (thn (hg _ s5 σ3 H5 x u _ I5' r5 (step x H5 y5)) fun _ s6 zz18=>?_)
  obtain⟨σ6,H6,I6,q6⟩:=zz18
  refine wpAny_passesOwn hp (thn (hb _ s6 σ6 H6 _ I6 q6) fun f s7 q7=>?_)
  have again:∀{σ7:St} {H7:Hp},Inv X (pins++Gx fp s5.heap) σ7 H7 s7→N σ7 H7→∃m,m<n∧∃i σ' H',Inv X pins σ' H' s7∧tn i s7.heap∧(∀b∈fp,H' b=none)∧W i m σ' H':=fun{σ7 H7} I7 n7=>by
   obtain⟨m',hm,w7⟩:=hN σ7 H7 n7
   refine⟨m',hm,i+1,σ7,H7,I7.unpinned,T.keep _ _ _ st5 fun b hb o e=>(I7.pin (b,o) (List.mem_append_right _ (List.mem_append_right _ (X6 hb e)))).1,fun b hb=>?_,w7⟩
   obtain⟨o,e,d⟩:=T.obj _ _ st5 b hb
   exact(I7.pin (b,o) (List.mem_append_right _ (List.mem_append_right _ (X6 hb e)))).2.1
  cases f with
  | next=>obtain⟨σ7,H7,I7,n7⟩:=q7;exact again I7 n7
  | cont=>obtain⟨σ7,H7,I7,n7⟩:=q7;exact again I7 n7
  | brk=>obtain⟨σ7,H7,I7,q7⟩:=q7;exact⟨σ7,H7,I7.unpinned,q7⟩
  | ret v=>obtain⟨x7,σ7,H7,I7,r7,q7⟩:=q7;exact⟨x7,σ7,H7,I7.unpinned,r7,q7⟩
end
abbrev R2:=V→V→Hp→VK→Prop
def OpR(X:Cx)(f:Value→Value→Sem Value)(r:R2):Prop:=
 ∀(pins:List (Addr×Obj)) (s:Shared) (σ:St) (H:Hp) (x y:V) (v u:Value) (Q:VK),Inv X pins σ H s→RelV x v→RelV y u→r x y H Q→
  wpAny (model X.prog X.w) X.A (f v u) (EP X pins σ Q) X.xe s
def UnR(X:Cx)(f:Value→Sem Value)(r:V→Hp→VK→Prop):Prop:=
 ∀(pins:List (Addr×Obj)) (s:Shared) (σ:St) (H:Hp) (x:V) (v:Value) (Q:VK),Inv X pins σ H s→RelV x v→r x H Q→
  wpAny (model X.prog X.w) X.A (f v) (EP X pins σ Q) X.xe s
def Ww(X:Cx)(f:Value)(r:List V→Hp→VK→Prop):Prop:=
 ∀(pins:List (Addr×Obj)) (s:Shared) (σ:St) (H:Hp) (xs:List V) (us:List Value) (Q:VK),Inv X pins σ H s→Vals xs us→r xs H Q→
  wpAny (model X.prog X.w) X.A (call f us) (EP X pins σ Q) X.xe s
def TruR(X:Cx)(r:V→Hp→(Bool→Hp→Prop)→Prop):Prop:=
 ∀(pins:List (Addr×Obj)) (s:Shared) (σ:St) (H:Hp) (x:V) (v:Value) (Q:Bool→Hp→Prop),Inv X pins σ H s→RelV x v→r x H Q→
  wpAny (model X.prog X.w) X.A (truthy v) (TP X pins σ Q) X.xe s
def tOp(r:R2)(ta tb:TE):TE:=fun σ H Q=>ta σ H fun x H1=>tb σ H1 fun y H2=>r x y H2 Q
def tUn(r:V→Hp→VK→Prop)(ta:TE):TE:=fun σ H Q=>ta σ H fun x H1=>r x H1 Q
def rI(C:Int→Int→Prop)(g:Int→Int→V):R2:=fun x y H Q=>∃i j,x= .int i∧y= .int j∧C i j∧Q (g i j) H
def rI0(g:Int→Int→V):R2:=fun x y H Q=>∃i j,x= .int i∧y= .int j∧Q (g i j) H
def rU(g:Int→V):V→Hp→VK→Prop:=fun x H Q=>∃i,x= .int i∧Q (g i) H
section
variable{X:Cx}{a b c:Expr}{ta tb tc:TE}{pos:Pos}
theorem binT(ha:PE X a ta)(hb:PE X b tb){pins:List (Addr×Obj)}{s:Shared}{σ:St}{H:Hp}{R:V→V→Hp→Prop}(I:Inv X pins σ H s)
  (h:ta σ H fun x H1=>tb σ H1 fun y H2=>R x y H2) {Q:Value→Shared→Prop} {f:Value→Value→Sem Value}
  (hf:∀v u s2 x y H2,Inv X pins σ H2 s2→RelV x v→RelV y u→R x y H2→wpAny (model X.prog X.w) X.A (f v u) Q X.xe s2):
  wpAny (model X.prog X.w) X.A (eval a X.env) (fun v s₁=>wpAny (model X.prog X.w) X.A (eval b X.env) (fun u s₂=>wpAny (model X.prog X.w) X.A (f v u) Q X.xe s₂) X.xe s₁) X.xe s:=by
 refine thn (ha pins s σ H _ I h) fun v s1 zz19=>?_
 obtain⟨x,H1,I1,r1,q1⟩:=zz19
 refine thn (hb pins s1 σ H1 _ I1 q1) fun u s2 zz20=>?_
 obtain⟨y,H2,I2,r2,q2⟩:=zz20
 exact hf v u s2 x y H2 I2 r1 r2 q2
theorem Y57{op:Operator}{r:R2}(ho:OpR X (binaryOp op) r)(ha:PE X a ta)(hb:PE X b tb):PE X (.BinOp a op b pos) (tOp r ta tb):=by
 intro pins s σ H Q I h
 exact wpAny_BinOp (binT ha hb I h fun v u s2 x y H2 I2 rx ry q=>ho pins s2 σ H2 x y v u Q I2 rx ry q)
theorem Y78{op:UnaryOp}{r:V→Hp→VK→Prop}(ho:UnR X (unaryOp op) r)(ha:PE X a ta):PE X (.UnaryOp op a pos) (tUn r ta):=by
 intro pins s σ H Q I h
 exact UnaryOp_ (thn (ha pins s σ H _ I h) fun v s1 zz21=>by obtain⟨x,H1,I1,r1,q1⟩:=zz21;exact ho pins s1 σ H1 x v Q I1 r1 q1)
theorem opI{f:Value→Value→Sem Value}{C:Int→Int→Prop}{g:Int→Int→Int}
  (rule:∀(i j:Int) (t u:Tok) (s:Shared) (Q:Value→Shared→Prop) (E:Value→Shared→Prop),C i j→Q (.int (g i j) s.toks) {s with toks:=s.toks+1}→wpAny (model X.prog X.w) X.A (f (.int i t) (.int j u)) Q E s):
  OpR X f (rI C fun i j=> .int (g i j)):=by
 intro pins s σ H x y v u Q I rx ry h
 obtain⟨i,j,rfl,rfl,hc,q⟩:=h
 obtain⟨t,rfl⟩:=rx
 obtain⟨t',rfl⟩:=ry
 exact rule i j t t' s _ _ hc ⟨.int (g i j),H,I.tok _,⟨_,rfl⟩,q⟩
theorem opI0{f:Value→Value→Sem Value}{g:Int→Int→Int}
  (rule:∀(i j:Int) (t u:Tok) (s:Shared) (Q:Value→Shared→Prop) (E:Value→Shared→Prop),Q (.int (g i j) s.toks) {s with toks:=s.toks+1}→wpAny (model X.prog X.w) X.A (f (.int i t) (.int j u)) Q E s):
  OpR X f (rI0 fun i j=> .int (g i j)):=by
 intro pins s σ H x y v u Q I rx ry h
 obtain⟨i,j,rfl,rfl,q⟩:=h
 obtain⟨t,rfl⟩:=rx
 obtain⟨t',rfl⟩:=ry
 exact rule i j t t' s _ _ ⟨.int (g i j),H,I.tok _,⟨_,rfl⟩,q⟩
theorem opB0{f:Value→Value→Sem Value}{g:Int→Int→Bool}
  (rule:∀(i j:Int) (t u:Tok) (s:Shared) (Q:Value→Shared→Prop) (E:Value→Shared→Prop),Q (.bool (g i j)) s→wpAny (model X.prog X.w) X.A (f (.int i t) (.int j u)) Q E s):
  OpR X f (rI0 fun i j=> .bl (g i j)):=by
 intro pins s σ H x y v u Q I rx ry h
 obtain⟨i,j,rfl,rfl,q⟩:=h
 obtain⟨t,rfl⟩:=rx
 obtain⟨t',rfl⟩:=ry
 exact rule i j t t' s _ _ ⟨.bl (g i j),H,I,rfl,q⟩
def CPow(i j:Int):Prop:=0≤j∧j≤1000000∧i.natAbs<2 ^ 64
def CMul(i j:Int):Prop:=(-(2 ^ 64)<i∧i<2 ^ 64)∨(-(2 ^ 64)<j∧j<2 ^ 64)
theorem CMul.ok{i j:Int}(h:CMul i j):IntMulOk i j:=by
 rcases h with⟨h1,h2⟩ | ⟨h1,h2⟩
 ·exact .of_left (intBits_le_64 h1 h2)
 ·exact .of_right (intBits_le_64 h1 h2)
theorem Y30:OpR X (binaryOp .Add) (rI0 fun i j=> .int (i+j)):=opI0 fun _ _ _ _ _ _ _ q=>add_int q
theorem Y48:OpR X (binaryOp .Sub) (rI0 fun i j=> .int (i - j)):=opI0 fun _ _ _ _ _ _ _ q=>sub_int q
theorem Zm6:OpR X (binaryOp .Mod) (rI (fun _ j=>j≠0) fun i j=> .int (i.fmod j)):=opI fun _ _ _ _ _ _ _ hc q=>mod_int' hc q
theorem Zy0:OpR X (binaryOp .Pow) (rI CPow fun i j=> .int (i ^ j.toNat)):=opI fun _ _ _ _ _ _ _ hc q=>pow_int_small hc.1 hc.2.1 hc.2.2 q
theorem unI{f:Value→Sem Value}{g:Int→Int}
  (rule:∀(i:Int) (t:Tok) (s:Shared) (Q:Value→Shared→Prop) (E:Value→Shared→Prop),Q (.int (g i) s.toks) {s with toks:=s.toks+1}→wpAny (model X.prog X.w) X.A (f (.int i t)) Q E s):
  UnR X f (rU fun i=> .int (g i)):=by
 intro pins s σ H x v Q I rx h
 obtain⟨i,rfl,q⟩:=h
 obtain⟨t,rfl⟩:=rx
 exact rule i t s _ _ ⟨.int (g i),H,I.tok _,⟨_,rfl⟩,q⟩
theorem Zz9:UnR X (unaryOp .USub) (rU fun i=> .int (-i)):=unI fun _ _ _ _ _ q=>neg_int q
end
noncomputable def scal:V→V→Bool
 | .non,.non=>true | .non,.int _=>true | .int _,.non=>true | .non,.bl _=>true | .bl _,.non=>true | .non,.str _=>true | .str _,.non=>true
 | .int _,.int _=>true | .bl _,.bl _=>true | .str _,.str _=>true | .byt _,.byt _=>true
 | .int _,.str _=>true | .str _,.int _=>true | .bl _,.str _=>true | .str _,.bl _=>true
 | _,_=>false
def rEq:R2:=fun x y H Q=>scal x y=true∧Q (.bl (decide (x=y))) H
def rNe:R2:=fun x y H Q=>scal x y=true∧Q (.bl (!decide (x=y))) H
theorem Bg{i j:Int}:decide (V.int i=V.int j)=(i==j):=by
 rw[Bool.eq_iff_iff]
 simp
theorem Zj8{i j:Bool}:decide (V.bl i=V.bl j)=(i==j):=by
 rw[Bool.eq_iff_iff]
 simp
theorem Z39{i j:Str}:decide (V.str i=V.str j)=(i==j):=by
 rw[Bool.eq_iff_iff]
 simp
theorem Bx{i j:Array UInt8}:decide (V.byt i=V.byt j)=(i.toList==j.toList):=by
 rw[Bool.eq_iff_iff]
 cases i
 cases j
 simp
section
variable{X:Cx}{a b c:Expr}{ta tb tc:TE}{pos:Pos}
theorem Zv{pins:List (Addr×Obj)}{σ:St}{H:Hp}{s:Shared}{Q:VK}{k k':Bool}(I:Inv X pins σ H s)(q:Q (.bl k) H)(e:k=k'):EP X pins σ Q (.bool k') s:=by
 subst e
 exact⟨.bl k,H,I,rfl,q⟩
theorem Y53:OpR X (compareOp .Eq) rEq:=by
 intro pins s σ H x y v u Q I rx ry h
 obtain⟨hs,q⟩:=h
 cases x with
 | non=>
  cases rx
  cases y with
  | non=>cases ry;exact PySem.EqNone.eq_none_none (Zv I q (by simp))
  | bl j=>cases ry;exact PySem.EqNone.eq_none_bool (Zv I q (by simp))
  | int j=>obtain⟨t',rfl⟩:=ry;exact PySem.EqNone.eq_none_int (Zv I q (by simp))
  | str j=>obtain⟨t',rfl⟩:=ry;exact PySem.EqNone.eq_none_str (Zv I q (by simp))
  | _=>exact absurd (show false=true from hs) Bool.false_ne_true
 | bl i=>
  cases rx
  cases y with
  | non=>cases ry;exact PySem.EqNone.eq_bool_none (Zv I q (by simp))
  | bl j=>cases ry;exact eq_bool (Zv I q Zj8)
  | str j=>obtain⟨t',rfl⟩:=ry;exact PySem.EqMixed.eq_bool_str (Zv I q (by simp))
  | _=>exact absurd (show false=true from hs) Bool.false_ne_true
 | int i=>
  obtain⟨t,rfl⟩:=rx
  cases y with
  | non=>cases ry;exact PySem.EqNone.eq_int_none (Zv I q (by simp))
  | int j=>obtain⟨t',rfl⟩:=ry;exact eq_int (Zv I q Bg)
  | str j=>obtain⟨t',rfl⟩:=ry;exact PySem.EqMixed.eq_int_str (Zv I q (by simp))
  | _=>exact absurd (show false=true from hs) Bool.false_ne_true
 | str i=>
  obtain⟨t,rfl⟩:=rx
  cases y with
  | non=>cases ry;exact PySem.EqNone.eq_str_none (Zv I q (by simp))
  | bl j=>cases ry;exact PySem.EqMixed.eq_str_bool (Zv I q (by simp))
  | int j=>obtain⟨t',rfl⟩:=ry;exact PySem.EqMixed.eq_str_int (Zv I q (by simp))
  | str j=>obtain⟨t',rfl⟩:=ry;exact eq_str (Zv I q Z39)
  | _=>exact absurd (show false=true from hs) Bool.false_ne_true
 | byt i=>
  obtain⟨t,rfl⟩:=rx
  cases y with
  | byt j=>obtain⟨t',rfl⟩:=ry;exact PySem.W.eq_bytes (Zv I q Bx)
  | _=>exact absurd (show false=true from hs) Bool.false_ne_true
 | _=>cases y<;>exact absurd (show false=true from hs) Bool.false_ne_true
theorem Y59:OpR X (compareOp .NotEq) rNe:=by
 intro pins s σ H x y v u Q I rx ry h
 obtain⟨hs,q⟩:=h
 cases x with
 | non=>
  cases rx
  cases y with
  | non=>cases ry;exact PySem.EqNone.ne_none_none (Zv I q (by simp))
  | bl j=>cases ry;exact PySem.EqNone.ne_none_bool (Zv I q (by simp))
  | int j=>obtain⟨t',rfl⟩:=ry;exact PySem.EqNone.ne_none_int (Zv I q (by simp))
  | str j=>obtain⟨t',rfl⟩:=ry;exact PySem.EqNone.ne_none_str (Zv I q (by simp))
  | _=>exact absurd (show false=true from hs) Bool.false_ne_true
 | bl i=>
  cases rx
  cases y with
  | non=>cases ry;exact PySem.EqNone.ne_bool_none (Zv I q (by simp))
  | bl j=>cases ry;exact ne_bool (Zv I q (congrArg not Zj8))
  | str j=>obtain⟨t',rfl⟩:=ry;exact PySem.EqMixed.ne_bool_str (Zv I q (by simp))
  | _=>exact absurd (show false=true from hs) Bool.false_ne_true
 | int i=>
  obtain⟨t,rfl⟩:=rx
  cases y with
  | non=>cases ry;exact PySem.EqNone.ne_int_none (Zv I q (by simp))
  | int j=>obtain⟨t',rfl⟩:=ry;exact ne_int (Zv I q (congrArg not Bg))
  | str j=>obtain⟨t',rfl⟩:=ry;exact PySem.EqMixed.ne_int_str (Zv I q (by simp))
  | _=>exact absurd (show false=true from hs) Bool.false_ne_true
 | str i=>
  obtain⟨t,rfl⟩:=rx
  cases y with
  | non=>cases ry;exact PySem.EqNone.ne_str_none (Zv I q (by simp))
  | bl j=>cases ry;exact PySem.EqMixed.ne_str_bool (Zv I q (by simp))
  | int j=>obtain⟨t',rfl⟩:=ry;exact PySem.EqMixed.ne_str_int (Zv I q (by simp))
  | str j=>obtain⟨t',rfl⟩:=ry;exact ne_str (Zv I q (congrArg not Z39))
  | _=>exact absurd (show false=true from hs) Bool.false_ne_true
 | byt i=>
  obtain⟨t,rfl⟩:=rx
  cases y with
  | byt j=>obtain⟨t',rfl⟩:=ry;exact PySem.W.ne_bytes (Zv I q (congrArg not Bx))
  | _=>exact absurd (show false=true from hs) Bool.false_ne_true
 | _=>cases y<;>exact absurd (show false=true from hs) Bool.false_ne_true
theorem Y77:OpR X (compareOp .Lt) (rI0 fun i j=> .bl (decide (i<j))):=opB0 fun _ _ _ _ _ _ _ q=>lt_int q
theorem Y55:OpR X (compareOp .LtE) (rI0 fun i j=> .bl (decide (i≤j))):=opB0 fun _ _ _ _ _ _ _ q=>le_int q
theorem Y52:OpR X (compareOp .Gt) (rI0 fun i j=> .bl (decide (j<i))):=opB0 fun _ _ _ _ _ _ _ q=>gt_int q
theorem Z45:OpR X (compareOp .In) (fun x y H Q=>∃i j,x= .str i∧y= .str j∧Q (.bl (!(Builtin.Str.occurrences j i 0 j.length 1).isEmpty)) H):=by
 intro pins s σ H x y v u Q I rx ry h
 obtain⟨i,j,rfl,rfl,q⟩:=h
 obtain⟨t,rfl⟩:=rx
 obtain⟨t',rfl⟩:=ry
 exact in_str (Zv I q rfl)
theorem Q4:OpR X (compareOp .Is) (fun x y H Q=>y= .non∧Q (.bl (decide (x= .non))) H):=by
 intro pins s σ H x y v u Q I rx ry h
 obtain⟨rfl,q⟩:=h
 cases ry
 refine is_none_gen (Zv I q ?_)
 cases x<;>first
  |(cases rx;rfl)
  |(obtain⟨t,rfl⟩:=rx;rfl)
theorem T5:OpR X (compareOp .IsNot) (fun x y H Q=>y= .non∧Q (.bl (!decide (x= .non))) H):=by
 intro pins s σ H x y v u Q I rx ry h
 obtain⟨rfl,q⟩:=h
 cases ry
 refine isnot_none_gen (Zv I q ?_)
 cases x<;>first
  |(cases rx;rfl)
  |(obtain⟨t,rfl⟩:=rx;rfl)
theorem N6:OpR X (compareOp .NotIn) (fun x y H Q=>∃i j,x= .str i∧y= .str j∧Q (.bl (!(!(Builtin.Str.occurrences j i 0 j.length 1).isEmpty))) H):=by
 intro pins s σ H x y v u Q I rx ry h
 obtain⟨i,j,rfl,rfl,q⟩:=h
 obtain⟨t,rfl⟩:=rx
 obtain⟨t',rfl⟩:=ry
 exact notIn_str (Zv I q rfl)
theorem Zp1{op:CmpOp}{r:R2}(ho:OpR X (compareOp op) r)(ha:PE X a ta)(hb:PE X b tb)(hm:behindInMarks op b=false):PE X (.Compare a [op] [b] pos) (tOp r ta tb):=by
 intro pins s σ H Q I h
 exact wpAny_Compare1 (binT ha hb I h fun v u s2 x y H2 I2 rx ry q=>ho pins s2 σ H2 x y v u Q I2 rx ry q) hm
def Zx4(t:TE):TT:=fun σ H Q=>t σ H fun x H'=>∃k,x= .bl k∧Q k H'
theorem Zo4{op:CmpOp}{r:R2}(ho:OpR X (compareOp op) r)(ha:PE X a ta)(hb:PE X b tb)(hm:behindInMarks op b=false):PT X (.Compare a [op] [b] pos) (Zx4 (tOp r ta tb)):=by
 intro pins s σ H Q I h
 refine wpAny_isTrue_Compare1 (thn (ha pins s σ H _ I h) fun v s1 ⟨x,H1,I1,r1,q1⟩=>thn (hb pins s1 σ H1 _ I1 q1) fun u s2 ⟨y,H2,I2,r2,q2⟩=>
  thn (ho pins s2 σ H2 x y v u _ I2 r1 r2 q2) fun c s3 ⟨z,H3,I3,r3,k,e,q3⟩=>?_) hm
 subst e
 cases r3
 exact wpAny_truthy_bool ⟨H3,I3,q3⟩
def TruV(K:PySem.W.Frag)(x:V)(H:Hp)(k:Bool):Prop:=
 match x with
 | .non=>k=false
 | .bl b=>k=b
 | .int i=>k=(i !=0)
 | .str y=>y.length≤sizeLine∧k=((y.length:Int) !=0)
 | .byt y=>y.size≤sizeLine∧k=((y.size:Int) !=0)
 | .ref p=>(∃xs,SqL K H p xs∧k= !xs.isEmpty)∨(∃xs,SqT K H p xs∧k= !xs.isEmpty)∨∃kvs,H p=some (.dK kvs)∧k= !kvs.isEmpty
 | _=>False
theorem Cj{κ:Type}{kvs:List (κ×V)}{vs:List (κ×Value)}(r:KV kvs vs):(!vs.isEmpty)= !kvs.isEmpty:=by
 cases r<;>rfl
theorem Pc{xs:List V}{its:List Value}(r:Vals xs its):(!its.toArray.isEmpty)= !xs.isEmpty:=by
 cases r<;>simp
theorem T9:(sizeLine:Nat)<2 ^ 63:=by rw[sizeLine_eq];decide
theorem Fy:TruR X (fun x H Q=>∃k,TruV X.K x H k∧Q k H):=by
 intro pins s σ H x v Q I rx h
 obtain⟨k,e,q⟩:=h
 have hl:=T9
 have hs:sizeLine=16777216:=sizeLine_eq
 cases x with
 | non=>
  cases rx
  have e':k=false:=e
  subst e'
  exact truthy_none ⟨H,I,q⟩
 | bl b=>
  cases rx
  have e':k=b:=e
  subst e'
  exact wpAny_truthy_bool ⟨H,I,q⟩
 | int i=>
  obtain⟨t,rfl⟩:=rx
  have e':k=(i !=0):=e
  subst e'
  exact PySem.P.truthy_int ⟨H,I,q⟩
 | str y=>
  obtain⟨t,rfl⟩:=rx
  obtain⟨hy,e'⟩:y.length≤sizeLine∧k=((y.length:Int) !=0):=e
  subst e'
  exact PySem.P.truthy_str (by omega) ⟨H,I.tok _,q⟩
 | byt y=>
  obtain⟨t,rfl⟩:=rx
  obtain⟨hy,e'⟩:y.size≤sizeLine∧k=((y.size:Int) !=0):=e
  subst e'
  exact PySem.W.truthy_bytes (by omega) ⟨H,I.tok _,q⟩
 | ref p=>
  cases rx
  have e':(∃xs,SqL X.K H p xs∧k= !xs.isEmpty)∨(∃xs,SqT X.K H p xs∧k= !xs.isEmpty)∨∃kvs,H p=some (.dK kvs)∧k= !kvs.isEmpty:=e
  rcases e' with⟨xs,hx,e'⟩ | ⟨xs,hx,e'⟩ | ⟨kvs,hx,e'⟩
  ·subst e'
   obtain⟨its,r,pl,hz⟩:=I.list hx
   have hlen:=r.length
   exact wpAny_truthy_list pl.isList (by simp only[List.size_toArray];omega) ⟨H,I.tok _,by rw[Pc r];exact q⟩
  ·subst e'
   obtain⟨its,r,pl,hz⟩:=I.tuple hx
   have hlen:=r.length
   exact truthy_tuple pl (by simp only[List.size_toArray];omega) ⟨H,I.tok _,by rw[Pc r];exact q⟩
  ·subst e'
   obtain⟨hz,hS,vs,r,m⟩:kvs.length≤sizeLine∧(p==sysModules)=false∧∃vs,KV kvs vs∧s.heap.DictOf (Zz X.prog X.w) p vs:=I.hok p _ hx
   have hlen:kvs.length=vs.length:=Paired.length r
   exact wpAny_truthy_dict hS m (by omega) ⟨H,I.tok _,by rw[Cj r];exact q⟩
 | _=>exact(show False from e).elim
theorem Zh8(ha:PE X a ta)(he:∀whole,isTrue a X.env whole=(do let v ←whole;standAt a.pos;holding [v] (truthy v))):
  PT X a (fun σ H Q=>ta σ H fun x H'=>∃k,TruV X.K x H' k∧Q k H'):=by
 intro pins s σ H Q I h
 exact isTrue_plain (thn (ha pins s σ H _ I h) fun v s1 zz23=>by obtain⟨x,H1,I1,r1,q1⟩:=zz23;exact Fy pins s1 σ H1 x v Q I1 r1 q1) (he _)
theorem B5:OpR X (binaryOp .Add) (fun x y H Q=>∃i j,x= .str i∧y= .str j∧i.length+j.length≤sizeLine∧Q (.str (i++j)) H):=by
 intro pins s σ H x y v u Q I rx ry h
 obtain⟨i,j,rfl,rfl,hz,q⟩:=h
 obtain⟨t,rfl⟩:=rx
 obtain⟨t',rfl⟩:=ry
 exact add_str (fun t' tk=>⟨.str (i++j),H,I.tok _,⟨_,rfl⟩,q⟩) hz
theorem Sv{x:V}{us:List Value}(r:Vals [x] us):∃u,us=[u]∧RelV x u:=by
 cases r with
 | cons r1 r2=>cases r2;exact⟨_,rfl,r1⟩
theorem Gd{x y:V}{us:List Value}(r:Vals [x,y] us):∃u w',us=[u,w']∧RelV x u∧RelV y w':=by
 cases r with
 | cons r1 r2=>
  cases r2 with
  | cons r3 r4=>cases r4;exact⟨_,_,rfl,r1,r3⟩
theorem Bi(hc:X.calm=true):Ww X (.builtin "max") (fun xs H Q=>∃i j,xs=[.int i,.int j]∧Q (.int (if j >i then j else i)) H):=by
 intro pins s σ H xs us Q I r h
 obtain⟨i,j,rfl,q⟩:=h
 obtain⟨u,w',rfl,⟨t,rfl⟩,⟨t',rfl⟩⟩:=Gd r
 refine max_two_ints (I.ok.hd hc) fun h' tk k=>⟨_,H,I.kept k,?_,q⟩
 by_cases hj:j >i
 ·rw[if_pos hj,if_pos hj];exact⟨_,rfl⟩
 ·rw[if_neg hj,if_neg hj];exact⟨_,rfl⟩
theorem Z13(hc:X.calm=true):Ww X (.builtin "min") (fun xs H Q=>∃i j,xs=[.int i,.int j]∧Q (.int (if j<i then j else i)) H):=by
 intro pins s σ H xs us Q I r h
 obtain⟨i,j,rfl,q⟩:=h
 obtain⟨u,w',rfl,⟨t,rfl⟩,⟨t',rfl⟩⟩:=Gd r
 refine min_two_ints (I.ok.hd hc) fun h' tk k=>⟨_,H,I.kept k,?_,q⟩
 by_cases hj:j<i
 ·rw[if_pos hj,if_pos hj];exact⟨_,rfl⟩
 ·rw[if_neg hj,if_neg hj];exact⟨_,rfl⟩
end
structure ObjM(h:Heap)(x dx C:Addr)(mA:Str→Option Value):Prop where
 obj:h.get? x=some (PySem.W.instObj C dx)
 ns:h.Ns1 dx mA
 ne:dx≠x
theorem Nv{h:Heap}{dx:Addr}{mA:Str→Option Value}(n:h.Ns1 dx mA):∃od,h.get? dx=some od∧∀name,PySem.W.lookIn name od=some (mA name):=by
 obtain⟨o,es,ep,ho,hd,hk,_,hm⟩:=n
 refine⟨o,ho,fun name=>?_⟩
 have e:=hm name
 unfold nsFind findBy at e
 rw[←Array.find?_toList] at e
 unfold PySem.W.lookIn
 rw[hd]
 dsimp only
 split
 ·rename_i y q
  rw[q] at e
  exact congrArg some e
 ·rename_i q
  rw[q] at e
  have a:es.toList.any (·.refKey)=false:=by
   rw[List.any_eq_false]
   intro y hy
   obtain⟨z,t,hkey⟩:=hk y (Array.mem_toList_iff.mp hy)
   simp[DictEntry.refKey,hkey]
  have a':¬es.toList.any (·.refKey)=true:=by rw[a];exact Bool.false_ne_true
  rw[if_neg a']
  exact congrArg some e
theorem ObjM.look{h:Heap}{x dx C:Addr}{mA:Str→Option Value}(I:ObjM h x dx C mA):∃od,PySem.W.InstAt h x (PySem.W.instObj C dx) C (some od)∧∀name,PySem.W.lookIn name od=some (mA name):=
 let ⟨od,ho,hl⟩:=Nv I.ns
 ⟨od,⟨I.obj,rfl,rfl,ho⟩,hl⟩
section
variable{prog:Program}{w:World}{A:Around}{E:Value→Shared→Prop}{s:Shared}{K:PySem.W.Frag}{x dx C f:Addr}{mA:Str→Option Value}{name:Str}{v:Value}
end
theorem RelO.some_of{v:V}{o:Option Value}(r:RelO (some v) o):∃u,o=some u∧RelV v u:=by
 cases o with
 | none=>exact(show False from r).elim
 | some u=>exact⟨u,rfl,r⟩
section
variable{P:Program}{w:World}{H H':Hp}{h h':Heap}{a C dx:Addr}{fs fs':List (Str×V)}
theorem Zs9(hok:HOk P w H h)(e:H a=some (.ins C dx fs)):∃mA,ObjM h a dx C mA∧(∀f,RelO (fs.lookup f) (mA f))∧PySem.Within mA (fs.map (·.1))∧fs.length≤1000∧H dx=some (.own a):=by
 obtain⟨d,z,ne,ob,mA,n,r,q⟩:=(show X4 P w H h a (.ins C dx fs) from hok a _ e)
 exact⟨mA,⟨ob,n,ne⟩,r,q,z,d⟩
end
structure Cls(K:PySem.W.Frag)(C:Addr):Prop where
 pg:PySem.W.plainGet K C Str.empty=true
 hd:PySem.W.hasDictIn K C=true
 po:PySem.W.plainOver K C=true
 sa:PySem.W.findIn K (.ref C) "__setattr__"=some (some (.builtin "object.__setattr__"))
theorem Cls.get{K:PySem.W.Frag}{C:Addr}(c:Cls K C)(f:Str):PySem.W.plainGet K C f=true:=c.pg
structure Con(K:PySem.W.Frag)(C:Addr)(f:Str)(v:V)(u:Value):Prop where
 at_:PySem.W.findIn K (.ref C) f=some (some u)
 rel:RelV v u
 get:PySem.W.specialIn K u "__get__"=some none
 cp:PySem.W.copiedNames.contains f=false
structure Meth(K:PySem.W.Frag)(C:Addr)(m:Str)(f:Addr):Prop where
 at_:PySem.W.findIn K (.ref C) m=some (some (.ref f))
 fn:PySem.W.isFn K (.ref f)=true
 kp:PySem.W.keepIn K (.ref f)=true
section
variable{X:Cx}{pins:List (Addr×Obj)}{σ:St}{H:Hp}{s:Shared}{a C dx:Addr}{fs:List (Str×V)}{f:Str}{v:V}{A:Around}{E:Value→Shared→Prop}
end
section
variable{X:Cx}{o e value:Expr}{f:Str}{pos pos' tpos:Pos}{ta tv:TE}
end
section
variable{X:Cx}{pins:List (Addr×Obj)}{σ:St}{H:Hp}{s:Shared}{A:Around}{E:Value→Shared→Prop}{Q:Value→Shared→Prop}{c:Value}{b:Bool}
inductive TyOf (K:PySem.W.Frag) (H:Hp):V→Value→Prop where
 | non:TyOf K H .non (.type "NoneType")
 | bl (x:Bool):TyOf K H (.bl x) (.type "bool")
 | int (i:Int):TyOf K H (.int i) (.type "int")
 | str (x:Str):TyOf K H (.str x) (.type "str")
 | flt (x:UInt64):TyOf K H (.flt x) (.type "float")
 | lst {a:Addr} {xs:List V} (e:H a=some (.lst xs)):TyOf K H (.ref a) (.type "list")
 | frz {a:Addr} {o:Obj} {xs:List V} (e:H a=some (.frz o (.lst xs))):TyOf K H (.ref a) (.type "list")
 | tup {a:Addr} {xs:List V} (e:H a=some (.tup xs)):TyOf K H (.ref a) (.type "tuple")
 | dK {a:Addr} {kvs:List (Key×V)} (e:H a=some (.dK kvs)):TyOf K H (.ref a) (.type "dict")
 | dT {a:Addr} {kvs:List (List Key×V)} (e:H a=some (.dT kvs)):TyOf K H (.ref a) (.type "dict")
 | ins {a C dx:Addr} {fs:List (Str×V)} (e:H a=some (.ins C dx fs)) (cl:Cls K C) (ha:PySem.W.findIn K (.ref C) "__class__"=some (some (.builtin "object.__class__")))
   (hn:PySem.W.specialIn K (.builtin "object.__class__") "__get__"=some (some (.builtin "getset_descriptor.__get__"))) (htk:PySem.W.takesIn K (.builtin "object.__class__")=some true)
   (hm:PySem.W.mroIn K C (.type "object")=some true):TyOf K H (.ref a) (.ref C)
theorem Z75{x:V}{u t:Value}(I:Inv X pins σ H s)(rx:RelV x u)(ty:TyOf X.K H x t)(e:PySem.W.kitOne X.K t c=some b)(h:∀tk,Q (.bool b) {s with toks:=tk}):
  wpAny (model X.prog X.w) A (call (.builtin "isinstance") [u,c]) Q E s:=by
 cases ty with
 | non=>cases (show u=Value.none from rx);exact PySem.W.kia_one PySem.W.kitx_none I.kIn True.intro e (fun z=>nomatch z) h
 | bl y=>cases (show u=Value.bool y from rx);exact PySem.W.kia_one PySem.W.kitx_bool I.kIn True.intro e (fun z=>nomatch z) h
 | int i=>obtain⟨t,q⟩:=(show ∃t,u=Value.int i t from rx);cases q;exact PySem.W.kia_one PySem.W.kitx_int I.kIn True.intro e (fun z=>nomatch z) h
 | str y=>obtain⟨t,q⟩:=(show ∃t,u=Value.str y t from rx);cases q;exact PySem.W.kia_one PySem.W.kitx_str I.kIn True.intro e (fun z=>nomatch z) h
 | flt y=>obtain⟨t,q⟩:=(show ∃t,u=Value.float y t from rx);cases q;exact PySem.W.kia_one PySem.W.kitx_float I.kIn True.intro e (fun z=>nomatch z) h
 | @lst a xs ea=>
  cases (show u=Value.ref a from rx)
  obtain⟨_,_,n,_,h1⟩:=(show X4 X.prog X.w H s.heap a (.lst xs) from I.hok a _ ea)
  exact PySem.W.kia_one PySem.W.kitx_list I.kIn ⟨_,h1,rfl⟩ e (fun z=>nomatch z) h
 | @frz a ob xs ea=>
  cases (show u=Value.ref a from rx)
  obtain⟨_,_,_,n,_,h1⟩:=(show X4 X.prog X.w H s.heap a (.frz ob (.lst xs)) from I.hok a _ ea)
  exact PySem.W.kia_one PySem.W.kitx_list I.kIn ⟨_,h1,rfl⟩ e (fun z=>nomatch z) h
 | @tup a xs ea=>
  cases (show u=Value.ref a from rx)
  obtain⟨_,_,_,p⟩:=(show X4 X.prog X.w H s.heap a (.tup xs) from I.hok a _ ea)
  obtain⟨o,h1,h2,_⟩:=p
  exact PySem.W.kia_one PySem.W.kitx_tuple I.kIn ⟨o,h1,h2⟩ e (fun z=>nomatch z) h
 | @dK a kvs ea=>
  cases (show u=Value.ref a from rx)
  obtain⟨_,_,vs,_,p⟩:=(show X4 X.prog X.w H s.heap a (.dK kvs) from I.hok a _ ea)
  obtain⟨o,es,ep,h1,h2,_⟩:=p
  exact PySem.W.kia_one PySem.W.kitx_dict I.kIn ⟨o,h1,h2.1⟩ e (fun z=>nomatch z) h
 | @dT a kvs ea=>
  cases (show u=Value.ref a from rx)
  obtain⟨_,_,xs,_,o,es,ep,h1,h2,_⟩:=(show X4 X.prog X.w H s.heap a (.dT kvs) from I.hok a _ ea)
  exact PySem.W.kia_one PySem.W.kitx_dict I.kIn ⟨o,h1,h2.1⟩ e (fun z=>nomatch z) h
 | @ins a C dx fs ea cl ha hn htk hm=>
  cases (show u=Value.ref a from rx)
  obtain⟨mA,O,_⟩:=Zs9 I.hok ea
  obtain⟨od,J,_⟩:=O.look
  exact PySem.W.kia_one (PySem.W.kitx_own (cl.get _) cl.hd ha hn htk hm) I.kIn J e (fun z=>nomatch z) h
end
structure Room(k:Nat)(A:Around):Prop where
 hd:A.handled=none
 dp:A.depth+3 * k+5<recursionLimit
 un:A.units+16 * k+200<cLine
theorem Room.mono{j k:Nat}{A:Around}(r:Room k A)(h:j≤k):Room j A:=⟨r.hd,by have:=r.dp;omega,by have:=r.un;omega⟩
theorem Room.deeper{k:Nat}{A:Around}(r:Room (k+1) A)(env:Env):Room k (A.deeper env):=
 ⟨r.hd,by have:=r.dp;show A.depth+1+3 * k+5<_;omega,by have:=r.un;show A.units+3+16 * k+200<_;omega⟩
theorem Room.depth{k:Nat}{A:Around}(r:Room k A):A.depth<recursionLimit:=by have:=r.dp;omega
theorem Room.units{k:Nat}{A:Around}(r:Room k A):A.units+64<cLine:=by have:=r.un;omega
def tNil:TA:=fun _ H Q=>Q [] H
def Y79(ta:TE)(tr:TA):TA:=fun σ H Q=>ta σ H fun x H1=>tr σ H1 fun xs H2=>Q (x::xs) H2
section
variable{X:Cx}{e:Expr}{es:List Expr}{te:TE}{t:TA}{pos:Pos}
theorem Rr:PA X [] tNil:=fun _ _ _ _ H Q I h=>Calls.spliced_nil ⟨[],H,I,.nil,h⟩
theorem V7(ha:PE X e te)(hr:PA X es t)(hs:starEach (e::es) X.env=(false,eval e X.env)::starEach es X.env:=by rfl):PA X (e::es) (Y79 te t):=by
 intro pos pins s σ H Q I h
 rw[hs]
 show wpAny _ _ (spliced ((false,eval e X.env)::backTo pos (starEach es X.env))) _ _ s
 refine Calls.spliced_cons (thn (ha pins s σ H _ I h) fun u s1 zz24=>?_)
 obtain⟨x,H1,I1,r1,q1⟩:=zz24
 exact thn (hr pos pins s1 σ H1 _ I1 q1) fun us s2 zz25=>by obtain⟨xs,H2,I2,r2,q2⟩:=zz25;exact⟨x::xs,H2,I2,.cons r1 r2,q2⟩
def tTup(t:TA):TE:=fun σ H Q=>t σ H fun xs H1=>xs.length≤sizeLine∧∀p,H1 p=none→Q (.ref p) (upd H1 p (.tup xs))
def tLst(t:TA):TE:=fun σ H Q=>t σ H fun xs H1=>xs.length≤sizeLine∧∀p,H1 p=none→Q (.ref p) (upd H1 p (.lst xs))
theorem Y42{x1}(h:PA X es t):PE X (.Tuple es x1 pos) (tTup t):=by
 intro pins s σ H Q I hq
 refine wpAny_Tuple_spliced (thn (h pos pins s σ H _ I hq) fun us s1 ⟨xs,H1,I1,r,z,q⟩=>⟨by rw[←r.length];exact z,?_⟩)
 have hf:H1 s1.heap.objs.size=none:=I1.hok.fresh (Nat.le_refl _)
 refine⟨.ref s1.heap.objs.size,upd H1 s1.heap.objs.size (.tup xs),I1.laid (t':=s1.toks) (fun b u e=>Heap.get?_push_of_some _ e) (Nat.le_refl _) ?_,rfl,q _ hf⟩
 exact⟨z,us,r,⟨_,Heap.get?_push_size _ rfl,rfl,_,rfl⟩⟩
theorem Zz4(h:PA X es t):PE X (.List es pos) (tLst t):=by
 intro pins s σ H Q I hq
 refine wpAny_List_spliced (thn (h pos pins s σ H _ I hq) fun us s1 ⟨xs,H1,I1,r,z,q⟩=>⟨by rw[←r.length];exact z,?_⟩)
 have hf:H1 s1.heap.objs.size=none:=I1.hok.fresh (Nat.le_refl _)
 refine⟨.ref s1.heap.objs.size,upd H1 s1.heap.objs.size (.lst xs),I1.laid (t':=s1.toks) (fun b u e=>Heap.get?_push_of_some _ e) (Nat.le_refl _) ?_,rfl,q _ hf⟩
 exact⟨z,us,0,r,Heap.get?_push_size _ rfl⟩
end
abbrev Sp:=List V→Hp→VK→XK→Prop
abbrev CXT:=List Env→Hp→Shared→XK→Value→Shared→Prop
structure Env0(P:Program)(w:World)(K:PySem.W.Frag)(mg:Str→Option Value)(base:Heap)(A:Around)(outer:List Env)(s:Shared)(H:Hp):Prop where
 frames:A.frames=some outer
 mod:Mod K mg base
 bs:∀b o,base.get? b=some o→s.heap.get? b=some o∧H b=none
 bsz:base.objs.size≤s.heap.objs.size
 funs:s.heap.FunFrames base outer
 frf:∀b∈frs outer,H b=none
 hok:HOk P w H s.heap
 bare:AllBare s.gens
def CE(outer:List Env)(P:Program)(w:World)(H:Hp)(s:Shared)(Q:VK)(u:Value)(s':Shared):Prop:=
 ∃v H',s'.os=s.os∧AllBare s'.gens∧Un (frs outer) [] H H' s.heap s'.heap∧HOk P w H' s'.heap∧RelV v u∧Q v H'
def CR(CX:CXT)(outer:List Env)(P:Program)(w:World)(H:Hp)(s:Shared)(Q:VK)(E:XK)(r:Result)(s':Shared):Prop:=
 match r with
 | .ok (.ret u)=>CE outer P w H s Q u s'
 | .ok _=>False
 | .error e=>CX outer H s E e s'
structure FnOk(P:Program)(w:World)(K:PySem.W.Frag)(mg:Str→Option Value)(base:Heap)(CX:CXT)(k:Nat)(f:Addr)(fd:FuncData)(ps:List Str)(sp:Sp):Prop where
 len:∀vs H Q E,sp vs H Q E→vs.length=ps.length
 run:∀(A:Around) (outer:List Env) (s:Shared) (H:Hp) (args:Args) (us:List Value) (vs:List V) (Q:VK) (E:XK),Room k A→Env0 P w K mg base A outer s H→BindsTo s fd args (ps.zip us)→Vals vs us→sp vs H Q E→
  codeAny (model P w) A (.call (.ref f) args) (CR CX outer P w H s Q E) s
theorem FnOk.imp{P:Program}{w:World}{K:PySem.W.Frag}{mg:Str→Option Value}{base:Heap}{CX:CXT}{k:Nat}{f:Addr}{fd:FuncData}{ps:List Str}{sp sp':Sp}(F:FnOk P w K mg base CX k f fd ps sp)
  (h:∀vs H Q E,sp' vs H Q E→sp vs H Q E):FnOk P w K mg base CX k f fd ps sp':=
 ⟨fun vs H Q E q=>F.len vs H Q E (h _ _ _ _ q),fun A outer s H args us vs Q E hr he hb hv hs=>F.run A outer s H args us vs Q E hr he hb hv (h _ _ _ _ hs)⟩
section
variable{X:Cx}{pins:List (Addr×Obj)}{σ:St}{H:Hp}{s s':Shared}
theorem Inv.env0(I:Inv X pins σ H s):Env0 X.prog X.w X.K X.mg X.base X.A X.stack s H:=
 ⟨I.ok.frames,I.ok.mod,I.bs,Nat.le_trans I.ok.bsz I.sz,I.stack,I.stkFree,I.hok,I.bare⟩
theorem Inv.after{Q:VK}{u:Value}(I:Inv X pins σ H s)(h:CE X.stack X.prog X.w H s Q u s'):EP X pins σ Q u s':=by
 obtain⟨v,H',os,bare,un,hok,r,q⟩:=h
 obtain⟨hh,g,d,t,os'⟩:=s'
 obtain rfl:os'=s.os:=os
 exact⟨v,H',I.call (h':=hh) (g':=g) (d':=d) (t':=t) (ch:=[]) un hok bare (fun b z=>absurd z (by simp)),r,q⟩
end
def Y29(sp:Sp)(dvs:List V)(E:XK)(t:TA):TE:=fun σ H Q=>t σ H fun vs H1=>sp (vs++dvs) H1 Q E
def Ym(K:PySem.W.Frag)(fd:FuncData)(ps:List Str)(ds:List Value):Prop:=
 ∀(s:Shared) (us:List Value),K.In s.heap→(us++ds).length=ps.length→BindsTo s fd ⟨us,[]⟩ (ps.zip (us++ds))
theorem Ym.all{K:PySem.W.Frag}{fd:FuncData}{ps:List Str}(h:∀us:List Value,us.length=ps.length→bindArgs fd ⟨us,[]⟩=pure (ps.zip us)):Ym K fd ps []:=fun s us _ hl=>by
 rw[List.append_nil] at hl ⊢
 exact .of_eq (h us hl)
def Fp(CX:CXT)(X:Cx)(E:XK):Prop:=∀(pins:List (Addr×Obj)) (σ:St) (H:Hp) (s:Shared) (e:Value) (s':Shared),Inv X pins σ H s→CX X.stack H s E e s'→X.xe e s'
section
variable{X:Cx}{CX:CXT}{k:Nat}{f C:Addr}{fd:FuncData}{ps:List Str}{sp:Sp}{dvs:List V}{ds:List Value}{E:XK}{x m:Str}{p pos apos:Pos}{e o:Expr}{es:List Expr}{ta:TE}{t:TA}
theorem Zk8{pins:List (Addr×Obj)}{σ:St}{H:Hp}{s:Shared}{Q:VK}{us:List Value}{vs:List V}(F:FnOk X.prog X.w X.K X.mg X.base CX k f fd ps sp)(hr:Room k X.A)(hb:Ym X.K fd ps ds)(hd:Vals dvs ds)(hx:Fp CX X E)
  (I:Inv X pins σ H s) (r:Vals vs us) (h:sp (vs++dvs) H Q E):wpAny (model X.prog X.w) X.A (call (.ref f) us) (EP X pins σ Q) X.xe s:=by
 have r2:Vals (vs++dvs) (us++ds):=r.append hd
 have hl:(us++ds).length=ps.length:=by rw[←r2.length];exact F.len _ _ _ _ h
 refine wpAny_call (codeAny_mono (F.run X.A X.stack s H ⟨us,[]⟩ (us++ds) (vs++dvs) Q E hr I.env0 (hb s us I.kIn hl) r2 h) fun r s' hq=>?_)
 cases r with
 | error e=>exact hx pins σ H s e s' I hq
 | ok fl=>
  cases fl with
  | ret u=>exact I.after hq
  | next=>exact False.elim hq
  | brk=>exact False.elim hq
  | cont=>exact False.elim hq
theorem Zt6(F:FnOk X.prog X.w X.K X.mg X.base CX k f fd ps sp)(hr:Room k X.A)(hg:Gl X x)(hm:X.mg x=some (.ref f))(hk:PySem.W.keepIn X.K (.ref f)=true)(hb:Ym X.K fd ps ds)(hd:Vals dvs ds)(hx:Fp CX X E)
  (ha:PA X (e::es) t) (hdb:(x==("__debug__":Str))=false:=by decide) (he:starEach (e::es) X.env=(false,eval e X.env)::starEach es X.env:=by rfl) (hpl:(backTo pos (starEach es X.env)).any (·.1)=false:=by rfl):
  PE X (.Call (.Name x p) (e::es) [] pos) (Y29 sp dvs E t):=by
 intro pins s σ H Q I h
 refine wpAny_Call_Name_kw (Gb I hg hm ?_ hdb)
 refine PySem.W.callWith_K (h₀:=X.base) I.ok.mod.kin hk (thn (ha pos pins s σ H _ I h) fun us s1 ⟨vs,H1,I1,r,q⟩=>⟨I1.kIn,?_⟩) he hpl
 exact Zk8 F hr hb hd hx I1 r q
theorem Zc8(F:FnOk X.prog X.w X.K X.mg X.base CX k f fd ps sp)(hr:Room k X.A)(hg:Gl X x)(hm:X.mg x=some (.ref f))(hk:PySem.W.keepIn X.K (.ref f)=true)(hb:Ym X.K fd ps ds)(hd:Vals dvs ds)(hx:Fp CX X E)
  (hdb:(x==("__debug__":Str))=false:=by decide):PE X (.Call (.Name x p) [] [] pos) (Y29 sp dvs E tNil):=by
 intro pins s σ H Q I h
 refine wpAny_Call_Name_kw (Gb I hg hm ?_ hdb)
 exact PySem.W.callWith_K0 I.kIn hk (Zk8 (us:=[]) F hr hb hd hx I .nil h)
structure Mk(K:PySem.W.Frag)(C f:Addr):Prop where
 makes:PySem.W.makesIn K C=true
 init:PySem.W.findIn K (.ref C) "__init__"=some (some (.ref f))
 fn:PySem.W.isFn K (.ref f)=true
 kp:PySem.W.keepIn K (.ref C)=true
end
section
variable{X:Cx}{CX:CXT}{k:Nat}{f C:Addr}{fd:FuncData}{ps ks:List Str}{sp:Sp}{E:XK}{x m:Str}{p pos apos kpos:Pos}{e o:Expr}{es:List Expr}{kws:List Keyword}{te ta:TE}{t tk:TA}{nm:Option Str}
structure KBinds(K:PySem.W.Frag)(fd:FuncData)(ps ks:List Str)(g:List Value→List Value→List Value)(gV:List V→List V→List V):Prop where
 to:∀(s:Shared) (us ws:List Value),K.In s.heap→(g us ws).length=ps.length→BindsTo s fd ⟨us,ks.zip ws⟩ (ps.zip (g us ws))
 rel:∀{vs:List V} {us:List Value} {zs:List V} {ws:List Value},Vals vs us→Vals zs ws→Vals (gV vs zs) (g us ws)
variable{g:List Value→List Value→List Value}{gV:List V→List V→List V}
end
structure FnScope(N P:List Str)(sc:Scope):Prop where
 kind:sc.kind= .function
 co:sc.isCoroutine=false
 gen:sc.isGenerator=false
 nd:N.Nodup
 pre:N.take P.length=P
 par:∀x∈P,sc.names.lookup x=some .local∨sc.names.lookup x=some .cell
 nofree:∀y∈sc.names,y.2≠ .free
theorem Jj{kindOf:Str→Option NameKind}{x:Str}:∀{binds:List (Str×Value)} {m:Str→Option Value},(∀v,(x,v)∉binds)→bindL kindOf binds m x=m x
 | [],_,_=>rfl
 |(n,v)::r,m,h=>by
  unfold bindL
  rw[Jj fun w hw=>h w (List.mem_cons_of_mem _ hw)]
  split
  ·have:x≠n:=by rintro rfl;exact h v List.mem_cons_self
   simp[this]
  ·rfl
theorem Jv{kindOf:Str→Option NameKind}{x:Str}:∀{binds:List (Str×Value)} {m:Str→Option Value},(∀v,(x,v)∉binds)→bindC kindOf binds m x=m x
 | [],_,_=>rfl
 |(n,v)::r,m,h=>by
  unfold bindC
  rw[Jv fun w hw=>h w (List.mem_cons_of_mem _ hw)]
  split
  ·rfl
  ·have:x≠n:=by rintro rfl;exact h v List.mem_cons_self
   simp[this]
theorem Jh{kindOf:Str→Option NameKind}{x:Str}{v:Value}:∀{P:List Str} {vs:List Value} {i:Nat} {m:Str→Option Value},P.Nodup→P[i]?=some x→vs[i]?=some v→kindOf x=some .local→
  bindL kindOf (P.zip vs) m x=some v
 | [],_,_,_,_,h,_,_=>by simp at h
 | _::_,[],_,_,_,_,h,_=>by simp at h
 | p::P,w::vs,0,m,nd,h1,h2,hk=>by
  simp at h1 h2;subst h1;subst h2
  show bindL kindOf ((p,w)::P.zip vs) m p=_
  unfold bindL
  rw[Jj fun v hv=>(List.nodup_cons.mp nd).1 (List.of_mem_zip hv).1,if_pos hk]
  simp
 | p::P,w::vs,i+1,m,nd,h1,h2,hk=>by
  show bindL kindOf ((p,w)::P.zip vs) m x=_
  unfold bindL
  exact Jh (i:=i) (List.nodup_cons.mp nd).2 (by simpa using h1) (by simpa using h2) hk
theorem Jr{kindOf:Str→Option NameKind}{x:Str}{v:Value}:∀{P:List Str} {vs:List Value} {i:Nat} {m:Str→Option Value},P.Nodup→P[i]?=some x→vs[i]?=some v→kindOf x≠some .local→
  bindC kindOf (P.zip vs) m x=some v
 | [],_,_,_,_,h,_,_=>by simp at h
 | _::_,[],_,_,_,_,h,_=>by simp at h
 | p::P,w::vs,0,m,nd,h1,h2,hk=>by
  simp at h1 h2;subst h1;subst h2
  show bindC kindOf ((p,w)::P.zip vs) m p=_
  unfold bindC
  rw[Jv fun v hv=>(List.nodup_cons.mp nd).1 (List.of_mem_zip hv).1,if_neg hk]
  simp
 | p::P,w::vs,i+1,m,nd,h1,h2,hk=>by
  show bindC kindOf ((p,w)::P.zip vs) m x=_
  unfold bindC
  exact Jr (i:=i) (List.nodup_cons.mp nd).2 (by simpa using h1) (by simpa using h2) hk
noncomputable def start(N:List Str)(vs:List V):St:=vs.map some++List.replicate (N.length - vs.length) none
def cxOf(CX:CXT)(P:Program)(w:World)(K:PySem.W.Frag)(mg:Str→Option Value)(base:Heap)(N:List Str)(qual:Str)(scope:Scope)(f:Addr)(cd:Value)(A:Around)(outer:List Env)(s:Shared)(H:Hp)(E:XK):Cx where
 prog:=P
 w:=w
 K:=K
 mg:=mg
 base:=base
 A:=A.deeper (envOfC qual scope s.heap.objs.size f cd)
 N:=N
 s₀:=s
 H₀:=H
 env:=envOfC qual scope s.heap.objs.size f cd
 outer:=outer
 stack:=envOfC qual scope s.heap.objs.size f cd::outer
 ex:=[]
 calm:=true
 fn:=fun _=>true
 pn:=[]
 xe:=fun e s'=>wpAny (model P w) (A.deeper (envOfC qual scope s.heap.objs.size f cd)) (leaving (envOfC qual scope s.heap.objs.size f cd) e) (fun _ s''=>CX outer H s E e s'') (fun e' s''=>CX outer H s E e' s'') s'
theorem E3{sc:Scope}{n:Nat}{x:Str}(h:sc.names.lookup x=some .cell):∃c,(cellsFrom n sc.names []).lookup x=some c:=by
 have q:=PySem.W.cellsFrom_some sc.names n [] (.inl h)
 exact Option.isSome_iff_exists.mp q
theorem Z83{CX:CXT}{P:Program}{w:World}{K:PySem.W.Frag}{mg:Str→Option Value}{base:Heap}{N ps:List Str}{qual:Str}{scope:Scope}{f:Addr}{cd:Value}{A:Around}{outer:List Env}{s s1:Shared}{H:Hp}{E:XK}{us:List Value}{vs:List V}
  (S:FnScope N ps scope) (hd:A.handled=none) (e0:Env0 P w K mg base A outer s H) (hl:vs.length=ps.length) (r:Vals vs us)
  (x:InCallC s s.heap.objs.size (bindL (envOfC qual scope s.heap.objs.size f cd).kindOf (ps.zip us) fun _=>none) (cellsFrom (s.heap.objs.size+1) scope.names []) (bindC (envOfC qual scope s.heap.objs.size f cd).kindOf (ps.zip us) fun _=>none) s1):
  Inv (cxOf CX P w K mg base N qual scope f cd A outer s H E) [] (start N vs) H s1:=by
 have hpl:ps.length≤N.length:=by have:=congrArg List.length S.pre;rw[List.length_take] at this;omega
 obtain⟨h1,tk,rfl,hk⟩:=x.done
 have noA:∀b:Addr,b∉(cxOf CX P w K mg base N qual scope f cd A outer s H E).ex:=fun b z=>absurd (show b∈([]:List Addr) from z) (by simp)
 refine⟨⟨e0.mod,S.kind,rfl,rfl,Nat.le_refl _,fun y z c h1 h2=>?_,fun y hy=>?_,fun y c _ h=>?_,fun _=>hd,Around.frames_deeper e0.frames,.inr ⟨rfl,rfl⟩,fun b z=>absurd z (noA b),e0.bs,e0.bsz,fun b _ _=>noA b,fun b z=>absurd z (noA b),e0.funs,e0.frf⟩,
  rfl,e0.bare,Un.kept hk,⟨_,x.toInCall.ns,fun i y v h1 h2 h3=>?_⟩,fun y c h=>⟨_,x.cell y c h⟩,e0.hok.fresh (Nat.le_refl _),fun y c h=>?_,fun p hp=>absurd (show p∈([]:List (Addr×Obj)) from hp) (by simp),e0.hok.kept hk,?_⟩
 ·exact name_of_addr x.apart (PySem.mem_of_lookup h1) (PySem.mem_of_lookup h2)
 ·have hy:scope.names.lookup y=some .cell∨scope.names.lookup y=some .free:=hy
  rcases hy with hy | hy
  ·exact E3 hy
  ·exact absurd rfl (S.nofree _ (PySem.mem_of_lookup hy))
 ·exact Nat.le_of_lt (x.above y c (PySem.mem_of_lookup h))
 ·have hi:i<vs.length:=by
   unfold start at h2
   by_cases hi:i<vs.length
   ·exact hi
   ·rw[List.getElem?_append_right (by simpa using hi)] at h2
    rw[List.getElem?_replicate] at h2
    split at h2<;>cases h2
  have ha:vs[i]?=some v:=by
   unfold start at h2
   rw[List.getElem?_append_left (by simpa using hi),List.getElem?_map] at h2
   cases e:vs[i]? with
   | none=>rw[e] at h2;cases h2
   | some a=>rw[e] at h2;cases h2;rfl
  obtain⟨u,hu,rv⟩:=r.get ha
  have hp:ps[i]?=some y:=by
   rw[←S.pre,List.getElem?_take_of_lt (by omega)];exact h1
  have ndP:ps.Nodup:=by rw[←S.pre];exact S.nd.sublist (List.take_sublist _ _)
  refine⟨u,rv,?_⟩
  rcases S.par y (List.mem_of_getElem? hp) with k | k
  ·exact .inl ⟨k,Jh ndP hp hu k⟩
  ·obtain⟨c,e⟩:=E3 (n:=s.heap.objs.size+1) k
   refine .inr ⟨.inl k,c,e,?_⟩
   have q:=x.cell y c e
   rw[Jr ndP hp hu (by show scope.names.lookup y≠_;rw[k];decide)] at q
   exact q
 ·exact e0.hok.fresh (Nat.le_of_lt (x.above y c (PySem.mem_of_lookup h)))
 ·unfold start
  show _=N.length
  rw[List.length_append,List.length_map,List.length_replicate]
  omega
theorem Zz8{CX:CXT}{P:Program}{w:World}{K:PySem.W.Frag}{mg:Str→Option Value}{base:Heap}{k:Nat}{f:Addr}{name qual:Str}{params:Arguments}{body:List Stmt}{scope:Scope}{dV kV doc pm cdv ct oc:Value}{an od:Option Addr}
  {osl:Array (Option Value)} {N ps:List Str} {sp:Sp} (lk:K.lookup f=some ⟨oc,od,.func (PySem.W.fnOf name qual params body scope dV kV doc pm an cdv ct),osl⟩) (hcd:PySem.W.codeIn K cdv qual=true) (S:FnScope N ps scope)
  (len:∀vs H Q E,sp vs H Q E→vs.length=ps.length)
  (hbody:∀(A:Around) (outer:List Env) (s:Shared) (H:Hp) (vs:List V) (Q:VK) (E:XK),Room k (A.deeper (envOfC qual scope s.heap.objs.size f cdv))→sp vs H Q E→
   ∃t,PSs (cxOf CX P w K mg base N qual scope f cdv A outer s H E) body t∧t {nx:=fun _ H'=>Q .non H',rt:=Q} (start N vs) H):
  FnOk P w K mg base CX (k+1) f (PySem.W.fnOf name qual params body scope dV kV doc pm an cdv ct) ps sp:=by
 refine⟨len,fun A outer s H args us vs Q E hr e0 hb r hsp=>?_⟩
 have hl:=len _ _ _ _ hsp
 have KX:K.In s.heap:=e0.mod.kin.keeps fun b o e=>(e0.bs b o e).1
 have lim:s.heap.NoLimit:=e0.mod.nolimit.keeps fun b o e=>(e0.bs b o e).1
 have hkind:∀y∈ps.zip us,scope.names.lookup y.1=some .local∨(scope.names.lookup y.1=some .cell∧((cellsFrom (s.heap.objs.size+1) scope.names []).lookup y.1).isSome=true):=fun⟨n,v⟩ hy=>by
  rcases S.par n (List.of_mem_zip hy).1 with q | q
  ·exact .inl q
  ·exact .inr ⟨q,PySem.W.cellsFrom_some _ _ _ (.inl q)⟩
 refine codeAny_call_function hr.depth (KX _ _ lk) rfl S.co S.gen rfl (PySem.W.codeRec_of KX hcd) (hb _ _ _ _ ?_)
 refine wpAny_newFunctionEnv_cells S.kind hkind fun env he s1 x=>?_
 subst he
 refine⟨lim.keeps x.toInCall.keep,codeAny_func ?_⟩
 obtain⟨t,ht,hq⟩:=hbody A outer s H vs Q E (hr.deeper _) hsp
 have I:Inv (cxOf CX P w K mg base N qual scope f cdv A outer s H E) [] (start N vs) H s1:=Z83 S hr.hd e0 hl r x
 refine wpAny_mono (ht [] s1 (start N vs) H _ I hq) (fun fl s' hs=>?_) fun e s' hs=>hs
 have fin:∀{σ':St} {H':Hp} {v:V} {u:Value},Inv (cxOf CX P w K mg base N qual scope f cdv A outer s H E) [] σ' H' s'→RelV v u→Q v H'→CE outer P w H s Q u s':=
  fun{σ' H' v u} J rv q=>⟨v,H',J.os,J.bare,J.base,J.hok,rv,q⟩
 cases fl with
 | ret u=>
  obtain⟨v,σ',H',J,rv,q⟩:=hs
  exact fin J rv q
 | next=>
  obtain⟨σ',H',J,q⟩:=hs
  exact fin (v:=V.non) (u:=Value.none) J rfl q
 | brk=>
  obtain⟨_,_,_,q⟩:=hs
  exact False.elim q
 | cont=>
  obtain⟨_,_,_,q⟩:=hs
  exact False.elim q
section
variable{X:Cx}{x:Str}{p pos:Pos}{e:Expr}{es:List Expr}{t:TA}{id T:String}{r:List V→Hp→VK→Prop}
def tCB(r:List V→Hp→VK→Prop)(t:TA):TE:=fun σ H Q=>t σ H fun vs H1=>r vs H1 Q
theorem Pv(hc:Ww X (.builtin id) r)(hg:Gl X x)(hm:X.mg x=none)(hv:bootBuiltins x=some (.builtin id))(ha:PA X (e::es) t)(hn:x≠"__name__":=by decide)(hdb:(x==("__debug__":Str))=false:=by decide)
  (he:starEach (e::es) X.env=(false,eval e X.env)::starEach es X.env:=by rfl) (hpl:(backTo pos (starEach es X.env)).any (·.1)=false:=by rfl):PE X (.Call (.Name x p) (e::es) [] pos) (tCB r t):=by
 intro pins s σ H Q I h
 refine wpAny_Call_Name_kw (Sf I hg hm hv ?_ hn hdb)
 exact PyProof.Rows.callWith_builtin1 (thn (ha pos pins s σ H _ I h) fun us s1 zz30=>by obtain⟨vs,H1,I1,r1,q1⟩:=zz30;exact hc pins s1 σ H1 vs us Q I1 r1 q1) he hpl
theorem Je(hc:Ww X (.type T) r)(hg:Gl X x)(hm:X.mg x=none)(hv:bootBuiltins x=some (.type T))(ha:PA X (e::es) t)(hn:x≠"__name__":=by decide)(hdb:(x==("__debug__":Str))=false:=by decide)
  (he:starEach (e::es) X.env=(false,eval e X.env)::starEach es X.env:=by rfl) (hpl:(backTo pos (starEach es X.env)).any (·.1)=false:=by rfl):PE X (.Call (.Name x p) (e::es) [] pos) (tCB r t):=by
 intro pins s σ H Q I h
 refine wpAny_Call_Name_kw (Sf I hg hm hv ?_ hn hdb)
 exact PyProof.Rows.callWith_type1 (thn (ha pos pins s σ H _ I h) fun us s1 zz31=>by obtain⟨vs,H1,I1,r1,q1⟩:=zz31;exact hc pins s1 σ H1 vs us Q I1 r1 q1) he hpl
end
end L2
namespace HT
open PySem PyProof.Rows
section
open PySem.SeqAt
open PySem.AutoSeq1 (wpAny_loadPart')
open PySem.MeetsSeq PySem.MeetsSeq2 PySem.MeetsSeq3
end
section
variable{prog:Program}{w:World}{A:Around}{E:Value→Shared→Prop}{s:Shared}
theorem Zn2{t b:Addr}{vs ws:List Value}{Q:Value→Shared→Prop}(ht:IsTup s.heap t vs.toArray)(hb:IsTup s.heap b ws.toArray)(hv:vs≠[])
  (h1:ws=[]→Q (.ref t) s) (h2:ws≠[]→Q (.ref s.heap.objs.size) {s with heap:=s.heap.push {cls:= .type "tuple",data:= .seq (vs++ws).toArray}})
  (hsz:vs.length+ws.length≤sizeLine):wpAny (model prog w) A (binaryOp .Add (.ref t) (.ref b)) Q E s:=by
 obtain⟨⟨cls,dd,data,sl⟩,ho,hc,n,hd⟩:=id ht
 obtain⟨⟨cls2,dd2,data2,sl2⟩,ho2,hc2,n2,hd2⟩:=id hb
 simp only at hc hd hc2 hd2
 subst hc hd hc2 hd2
 have e:vs.toArray++ws.toArray=(vs++ws).toArray:=by simp
 by_cases hw:ws=[]
 ·exact concat_meets ⟨_,ho,rfl⟩ ⟨_,ho2,rfl⟩ noFill_tuple_add seq_tuple_add PySem.F.slot_tuple_add PySem.F.entry_tuple_add (PySem.F.args_tuple_add_2 _ _)
   (tuple_addW1 t b vs.toArray ws.toArray n n2 dd dd2 sl sl2 (by simpa using hv) (by simp[hw])) ⟨ho,ho2,h1 hw⟩
 ·refine concat_meets ⟨_,ho,rfl⟩ ⟨_,ho2,rfl⟩ noFill_tuple_add seq_tuple_add PySem.F.slot_tuple_add PySem.F.entry_tuple_add (PySem.F.args_tuple_add_2 _ _)
   (tuple_addW2 t b vs.toArray ws.toArray n n2 dd dd2 sl sl2 (by simpa using hv) (by simpa using hw) (by rw[List.size_toArray,List.size_toArray];exact hsz)) ⟨ho,ho2,?_⟩
  rw[e]
  exact h2 hw
noncomputable def sIx(n d:Nat):Option Int→Nat
 | none=>d
 | some v=>if v<0 then(v+(n:Int)).toNat else min v.toNat n
theorem Y23(n d:Nat)(hd:d≤n)(o:Option Int):sIx n d o≤n:=by
 cases o with
 | none=>exact hd
 | some v=>
  show(if v<0 then(v+(n:Int)).toNat else min v.toNat n)≤n
  by_cases hv:v<0
  ·rw[if_pos hv];omega
  ·rw[if_neg hv];exact Nat.min_le_right _ _
theorem Be(v:Int)(n d:Nat):(if v<0 then max (v+(n:Int)) 0 else min v (n:Int))=((sIx n d (some v):Nat):Int):=by
 show(if v<0 then max (v+(n:Int)) 0 else min v (n:Int))=(((if v<0 then(v+(n:Int)).toNat else min v.toNat n):Nat):Int)
 by_cases hv:v<0
 ·simp only[if_pos hv];omega
 ·simp only[if_neg hv];omega
theorem Cc(lo hi:Option Int)(n:Nat):Builtin.Slice.sliceAdjust lo hi 1 (n:Int)=(((sIx n 0 lo:Nat):Int),((sIx n n hi:Nat):Int)):=by
 have h1:¬((1:Int)<0):=by omega
 unfold Builtin.Slice.sliceAdjust
 simp only[h1,if_false]
 refine Prod.ext ?_ ?_
 ·cases lo with
  | none=>rfl
  | some v=>exact Be v n 0
 ·cases hi with
  | none=>rfl
  | some v=>exact Be v n n
theorem Ey(i j:Nat):Builtin.Slice.slicePlaces (i:Int) (j:Int) 1=j - i:=by
 unfold Builtin.Slice.slicePlaces
 have h1:(1:Int) >0:=by omega
 simp only[h1,if_true,Int.ediv_one]
 split<;>omega
theorem Pq{v:Value}{o:Option Int}{Q:Option Int→Shared→Prop}(p:IsPart v o)(h:Q o s):wpAny (model prog w) A (Builtin.Slice.slicePartIndex v) Q E s:=by
 cases p with
 | none=>exact slicePart_none h
 | int i t=>exact slicePart_int h
theorem Sw{sl:Addr}{vl vu:Value}{lo hi:Option Int}{n:Nat}{Q:Int×Int×Nat→Shared→Prop}(hs:s.heap.IsSliceOf sl vl vu .none)(pl:IsPart vl lo)(pu:IsPart vu hi)
  (h:Q (((sIx n 0 lo:Nat):Int),1,sIx n n hi - sIx n 0 lo) s):wpAny (model prog w) A (Builtin.Slice.sliceApplied (.ref sl) (pure (n:Int))) Q E s:=by
 obtain⟨os,hos,hcs,hds⟩:=id hs
 unfold Builtin.Slice.sliceApplied Builtin.Slice.sliceFields
 refine wpAny_bind (wpAny_bind (wpAny_field hos hds (x:=vl) rfl (wpAny_bind (wpAny_field hos hds (x:=vu) rfl (wpAny_bind (wpAny_field hos hds (x:= .none) rfl (wpAny_pure ?_)))))))
 refine wpAny_bind (slicePart_none ?_)
 show wpAny _ _ (if ((1:Int)==0)=true then _ else _) _ _ s
 rw[if_neg (by decide)]
 refine wpAny_bind (Pq pl (wpAny_bind (Pq pu (wpAny_bind (wpAny_pure ?_)))))
 show wpAny _ _ (match Builtin.Slice.sliceAdjust lo hi 1 (n:Int) with | (lo,hi)=>pure (lo,(1:Int),Builtin.Slice.slicePlaces lo hi 1)) _ _ s
 rw[Cc lo hi n]
 show wpAny _ _ (pure (((sIx n 0 lo:Nat):Int),(1:Int),Builtin.Slice.slicePlaces ((sIx n 0 lo:Nat):Int) ((sIx n n hi:Nat):Int) 1)) _ _ s
 rw[Ey]
 exact wpAny_pure h
theorem Zf6(xs:Array Value)(i k:Nat):((List.range k).filterMap fun(m:Nat)=>xs[((i:Int)+(m:Int) * 1).toNat]?).toArray=((xs.toList.drop i).take k).toArray:=by
 have e:(fun(m:Nat)=>xs[((i:Int)+(m:Int) * 1).toNat]?)=fun m=>xs[i+m]?:=by
  funext m
  have:((i:Int)+(m:Int) * 1).toNat=i+m:=by omega
  rw[this]
 rw[e]
 have:=pick_run xs i k
 rw[List.filterMap_map] at this
 have e2:((fun x=>xs[x]?) ∘ fun x=>i+x)=fun m=>xs[i+m]?:=rfl
 rw[e2] at this
 rw[this]
theorem Sa{t sl:Addr}{items:Array Value}{vl vu:Value}{lo hi:Option Int}{Q:Value→Shared→Prop}(ht:IsTup s.heap t items)(hs:s.heap.IsSliceOf sl vl vu .none)(pl:IsPart vl lo)(pu:IsPart vu hi)
  (hw:¬(sIx items.size 0 lo=0∧sIx items.size items.size hi=items.size))
  (h:Q (.ref s.heap.objs.size) {s with heap:=s.heap.push {cls:= .type "tuple",data:= .seq ((items.toList.drop (sIx items.size 0 lo)).take (sIx items.size items.size hi - sIx items.size 0 lo)).toArray}})
  (hsz:items.size≤sizeLine):wpAny (model prog w) A (getItem (.ref t) (.ref sl)) Q E s:=by
 have htake:sizeOk (.seq ((items.toList.drop (sIx items.size 0 lo)).take (sIx items.size items.size hi - sIx items.size 0 lo)).toArray):=by
  show((items.toList.drop (sIx items.size 0 lo)).take (sIx items.size items.size hi - sIx items.size 0 lo)).toArray.size≤sizeLine
  rw[List.size_toArray,List.length_take,List.length_drop,Array.length_toList]
  omega
 have hj:sIx items.size items.size hi≤items.size:=Y23 _ _ (Nat.le_refl _) hi
 obtain⟨os,hos,hcs,hds⟩:=id hs
 have hTs:s.TypeIs (.ref sl) "slice":=⟨os,hos,hcs⟩
 unfold getItem
 try with_reducible refine wpAny_holding ?_
 first | refine wpAny_bind (wpAny_pure ?_) | skip
 refine wpAny_bind (wpAny_sequenceKey ht.typeIs (by decide) ?_)
 refine wpAny_bind (wpAny_callSpecial?_slot (name:=Str.ofString "__getitem__") ht.typeIs PyProof.Rows.slot_tuple_getitem
  (wpAny_call_entry PyProof.Rows.slot_tuple_getitem ht.typeIs entry_tuple_getitem ?_ (args_tuple_getitem _ _)))
 show wpAny _ _ (Builtin.Tuple.tupleItemsOf (.ref t) >>=_) _ _ s
 refine wpAny_bind (tupleItemsOf_ ht ?_)
 refine wpAny_bind (wpAny_typeOf hTs ?_)
 rw[if_pos (by decide)]
 refine wpAny_bind (Sw hs pl pu ?_)
 have hno:¬((((sIx items.size 0 lo:Nat):Int)==0&&(1:Int)==1&&(sIx items.size items.size hi - sIx items.size 0 lo)==items.size)=true):=by
  intro q
  rw[Bool.and_eq_true,Bool.and_eq_true] at q
  have q1:((sIx items.size 0 lo:Nat):Int)=0:=eq_of_beq q.1.1
  have q2:sIx items.size items.size hi - sIx items.size 0 lo=items.size:=eq_of_beq q.2
  exact hw ⟨by omega,by omega⟩
 show wpAny _ _ (if (((sIx items.size 0 lo:Nat):Int)==0&&(1:Int)==1&&(sIx items.size items.size hi - sIx items.size 0 lo)==items.size)=true then _ else _) _ _ s
 rw[if_neg hno,Zf6]
 first
  | exact wpAny_bind (m:=Builtin.Tuple.tupleExact _) (wpAny_newObj_type (wpAny_pure ⟨_,rfl,wpAny_pure h⟩) htake)
  | exact wpAny_bind (m:=Builtin.Tuple.tupleExact _) (wpAny_newObj_type (wpAny_bind (wpAny_pure (wpAny_pure ⟨_,rfl,wpAny_pure h⟩))) htake)
  | exact wpAny_bind (wpAny_bind (m:=Builtin.Tuple.tupleExact _) (wpAny_newObj_type (wpAny_pure (wpAny_pure ⟨_,rfl,wpAny_pure h⟩)) htake))
  | exact wpAny_bind (wpAny_bind (m:=Builtin.Tuple.tupleExact _) (wpAny_newObj_type (wpAny_pure ⟨_,rfl,wpAny_pure h⟩) htake))
end
end HT
namespace L2
open PySem PySem.Spec PyProof.Rows
abbrev TO:=St→Hp→(Option Int→Hp→Prop)→Prop
def PO(X:Cx)(e:Option Expr)(t:TO):Prop:=
 ∀(pins:List (Addr×Obj)) (s:Shared) (σ:St) (H:Hp) (Q:Option Int→Hp→Prop),Inv X pins σ H s→t σ H Q→
  wpAny (model X.prog X.w) X.A (evalPart e X.env) (fun u s'=>∃o H',Inv X pins σ H' s'∧IsPart u o∧Q o H') X.xe s
def Zm4:TO:=fun _ H Q=>Q none H
def Y49(t:TE):TO:=fun σ H Q=>t σ H fun x H1=>∃i,x= .int i∧Q (some i) H1
theorem C1{ns:List Int}:∀{us:List Value},Vals (ns.map V.int) us→IntsAre us ns:=by
 induction ns with
 | nil=>intro us r;rw[List.map_nil] at r;cases r;exact .nil
 | cons n ns ih=>
  intro us r
  rw[List.map_cons] at r
  cases r with
  | cons r1 r2=>
   obtain⟨t,e⟩:=r1
   subst e
   exact .cons n t (ih r2)
section
variable{X:Cx}{e:Expr}{te:TE}{lo hi:Option Expr}{tl th:TO}{pos p2:Pos}
theorem Zo7:PO X none Zm4:=by
 intro pins s σ H Q I h
 rw[evalPart_none]
 exact wpAny_pure ⟨none,H,I,.none,h⟩
theorem Z34(h:PE X e te):PO X (some e) (Y49 te):=by
 intro pins s σ H Q I hw
 rw[evalPart_some]
 refine thn (h pins s σ H _ I hw) fun u s1 zz32=>?_
 obtain⟨x,H1,I1,r1,q1⟩:=zz32
 obtain⟨i,rfl,q⟩:=q1
 obtain⟨t,rfl⟩:=r1
 exact⟨some i,H1,I1,.int i t,q⟩
def SlR(X:Cx)(r:V→Option Int→Option Int→Hp→VK→Prop):Prop:=
 ∀(pins:List (Addr×Obj)) (s:Shared) (σ:St) (H:Hp) (x:V) (v vl vu:Value) (lo hi:Option Int) (sl:Addr) (Q:VK),Inv X pins σ H s→RelV x v→s.heap.IsSliceOf sl vl vu .none→IsPart vl lo→IsPart vu hi→r x lo hi H Q→
  ∃T id,typeLookup (.type T) "__getitem__"=pure (some (.builtin id))∧s.TypeIs v T∧wpAny (model X.prog X.w) X.A (getItem v (.ref sl)) (EP X pins σ Q) X.xe s
def tSl(r:V→Option Int→Option Int→Hp→VK→Prop)(te:TE)(tl th:TO):TE:=fun σ H Q=>te σ H fun x H1=>tl σ H1 fun l H2=>th σ H2 fun u H3=>r x l u H3 Q
theorem Zg4{r:V→Option Int→Option Int→Hp→VK→Prop}(hr:SlR X r)(he:PE X e te)(hl:PO X lo tl)(hu:PO X hi th):PE X (.Subscript e (.Slice lo hi none p2) pos) (tSl r te tl th):=by
 intro pins s σ H Q I h
 refine Subscript_ (thn (he pins s σ H _ I h) fun v s1 zz33=>?_)
 obtain⟨x,H1,I1,r1,q1⟩:=zz33
 refine wpAny_Slice (thn (hl pins s1 σ H1 _ I1 q1) fun vl s2 ⟨l,H2,I2,pl,q2⟩=>thn (hu pins s2 σ H2 _ I2 q2) fun vu s3 zz35=>?_)
 obtain⟨u,H3,I3,pu,q3⟩:=zz35
 rw[evalPart_none]
 refine wpAny_pure ?_
 have I4:Inv X pins σ H3 {s3 with heap:=s3.heap.push {cls:= .type "slice",data:= .fields #[vl,vu,.none]}}:=I3.kept (t':=s3.toks) fun b ob q=>Heap.get?_push_of_some _ q
 obtain⟨T,id,hT,ht,hg⟩:=hr pins {s3 with heap:=s3.heap.push {cls:= .type "slice",data:= .fields #[vl,vu,.none]}} σ H3 x v vl vu l u s3.heap.objs.size Q I4 r1 (Heap.IsSliceOf.new ..) pl pu q3
 show wpAny (model X.prog X.w) X.A (subscriptTail e (.Slice lo hi none p2) v (.ref s3.heap.objs.size)) (EP X pins σ Q) X.xe {s3 with heap:=s3.heap.push {cls:= .type "slice",data:= .fields #[vl,vu,.none]}}
 exact tail_any (ops:=[.ref s3.heap.objs.size,v]) ht hT hg (by with_unfolding_all rfl)
noncomputable def cutV(xs:List V)(lo hi:Option Int):List V:=(xs.drop (HT.sIx xs.length 0 lo)).take (HT.sIx xs.length xs.length hi - HT.sIx xs.length 0 lo)
theorem Rp(xs:List V)(lo hi:Option Int):(cutV xs lo hi).length≤xs.length:=by
 unfold cutV
 rw[List.length_take,List.length_drop]
 omega
def rSlT(K:PySem.W.Frag):V→Option Int→Option Int→Hp→VK→Prop:=fun x lo hi H Q=>∃a xs,x= .ref a∧SqT K H a xs∧
 ¬(HT.sIx xs.length 0 lo=0∧HT.sIx xs.length xs.length hi=xs.length)∧∀p,H p=none→Q (.ref p) (upd H p (.tup (cutV xs lo hi)))
theorem Y40:SlR X (rSlT X.K):=by
 intro pins s σ H x v vl vu lo hi sl Q I rx hs pl pu h
 obtain⟨a,xs,rfl,hx,hw,q⟩:=h
 cases rx
 obtain⟨its,r,ht,hz⟩:=I.tuple hx
 have hlen:its.toArray.size=xs.length:=by rw[List.size_toArray];exact r.length.symm
 refine⟨"tuple",_,PyProof.Rows.slot_tuple_getitem.lookup,ht.typeIs,?_⟩
 refine HT.Sa ht hs pl pu (by rw[hlen];exact hw) ?_ (by rw[hlen];exact hz)
 rw[hlen]
 refine⟨.ref s.heap.objs.size,_,I.laid (t':=s.toks) (o:= .tup (cutV xs lo hi)) (fun b ob q=>Heap.get?_push_of_some _ q) (Nat.le_refl _) ?_,rfl,q _ (I.hok.fresh (Nat.le_refl _))⟩
 exact⟨Nat.le_trans (Rp xs lo hi) hz,_,(r.drop (HT.sIx xs.length 0 lo)).take (HT.sIx xs.length xs.length hi - HT.sIx xs.length 0 lo),IsTup.new _ _⟩
def Y84(K:PySem.W.Frag):R2:=fun x y H Q=>∃a b xs ys,x= .ref a∧y= .ref b∧SqT K H a xs∧SqT K H b ys∧xs≠[]∧xs.length+ys.length≤sizeLine∧
 (ys=[]→Q (.ref a) H)∧(ys≠[]→∀p,H p=none→Q (.ref p) (upd H p (.tup (xs++ys))))
theorem Vals.nil_iff{xs:List V}{us:List Value}(r:Vals xs us):us=[]↔xs=[]:=by
 cases r with
 | nil=>simp
 | cons _ _=>simp
theorem Zs3:OpR X (binaryOp .Add) (Y84 X.K):=by
 intro pins s σ H x y v u Q I rx ry h
 obtain⟨a,b,xs,ys,rfl,rfl,ha,hb,hx,hz,q1,q2⟩:=h
 cases rx
 cases ry
 obtain⟨its,r1,p1,_⟩:=I.tuple ha
 obtain⟨its2,r2,p2,_⟩:=I.tuple hb
 refine HT.Zn2 p1 p2 (fun z=>hx (r1.nil_iff.mp z)) (fun z=>⟨.ref a,H,I,rfl,q1 (r2.nil_iff.mp z)⟩) (fun z=>?_) (by rw[←r1.length,←r2.length];exact hz)
 refine⟨.ref s.heap.objs.size,_,I.laid (t':=s.toks) (o:= .tup (xs++ys)) (fun b ob q=>Heap.get?_push_of_some _ q) (Nat.le_refl _) ?_,rfl,q2 (fun w=>z (r2.nil_iff.mpr w)) _ (I.hok.fresh (Nat.le_refl _))⟩
 exact⟨by rw[List.length_append];exact hz,_,r1.append r2,IsTup.new _ _⟩
end
noncomputable def ixN(n:Nat)(i:Int):Option Nat:=if 0≤i then(if i<n then some i.toNat else none) else if -(n:Int)≤i then some (i+n).toNat else none
noncomputable def atI{α:Type}(xs:List α)(i:Int):Option α:=(ixN xs.length i).bind fun j=>xs[j]?
theorem Z23{n:Nat}{i:Int}{j:Nat}(h:ixN n i=some j):seqIndex? i n=some j∧j<n∧ -(n:Int)≤i∧i<n:=by
 unfold ixN at h
 by_cases h0:0≤i
 ·rw[if_pos h0] at h
  by_cases h1:i<n
  ·rw[if_pos h1] at h
   have e:i.toNat=j:=Option.some.inj h
   exact⟨by rw[seqIndex_of h0 h1,e],by omega,by omega,h1⟩
  ·rw[if_neg h1] at h;cases h
 ·rw[if_neg h0] at h
  by_cases h1:-(n:Int)≤i
  ·rw[if_pos h1] at h
   have e:(i+n).toNat=j:=Option.some.inj h
   exact⟨by rw[seqIndex_neg (by omega) h1,e],by omega,h1,by omega⟩
  ·rw[if_neg h1] at h;cases h
theorem G7{α:Type}{xs:List α}{i:Int}{v:α}(h:atI xs i=some v):∃j,seqIndex? i xs.length=some j∧xs[j]?=some v∧j<xs.length∧ -(xs.length:Int)≤i∧i<xs.length:=by
 unfold atI at h
 cases e:ixN xs.length i with
 | none=>rw[e] at h;cases h
 | some j=>
  rw[e] at h
  obtain⟨h1,h2,h3,h4⟩:=Z23 e
  exact⟨j,h1,h,h2,h3,h4⟩
theorem Oc{α:Type}{xs:List α}{j:Nat}{v:α}(h:xs[j]?=some v):atI xs (j:Int)=some v:=by
 have hj:j<xs.length:=(List.getElem?_eq_some_iff.mp h).1
 have e:ixN xs.length (j:Int)=some j:=by
  unfold ixN
  rw[if_pos (by omega),if_pos (by omega)];simp
 unfold atI;rw[e];exact h
def Z53(b:Expr):Prop:=∀o i,subscripted b false o i=operate [o,i] (getItem o i)
def IxR(X:Cx)(r:R2):Prop:=
 ∀(value slice:Expr) (pins:List (Addr×Obj)) (s:Shared) (σ:St) (H:Hp) (x y:V) (v u:Value) (Q:VK),Inv X pins σ H s→RelV x v→RelV y u→r x y H Q→
  subscripted slice false v u=operate [v,u] (getItem v u)→wpAny (model X.prog X.w) X.A (subscriptTail value slice v u) (EP X pins σ Q) X.xe s
def MtR(X:Cx)(id:String)(r:V→List V→Hp→VK→Prop):Prop:=
 ∀(pins:List (Addr×Obj)) (s:Shared) (σ:St) (H:Hp) (x:V) (xs:List V) (v:Value) (us:List Value) (Q:VK),Inv X pins σ H s→RelV x v→Vals xs us→r x xs H Q→
  wpAny (model X.prog X.w) X.A (call (.builtin id) (v::us)) (EP X pins σ Q) X.xe s
section
variable{X:Cx}{a b:Expr}{ta tb:TE}{pos:Pos}
theorem Y76{r:R2}(hr:IxR X r)(ha:PE X a ta)(hb:PE X b tb)(hs:Z53 b):PE X (.Subscript a b pos) (tOp r ta tb):=by
 intro pins s σ H Q I h
 exact Subscript_ (binT ha hb I h fun v u s2 x y H2 I2 rx ry q=>hr a b pins s2 σ H2 x y v u Q I2 rx ry q (hs _ _))
def rIxL(K:PySem.W.Frag):R2:=fun x y H Q=>∃p xs i v,x= .ref p∧y= .int i∧SqL K H p xs∧atI xs i=some v∧Q v H
def rIxT(K:PySem.W.Frag):R2:=fun x y H Q=>∃p xs i v,x= .ref p∧y= .int i∧SqT K H p xs∧atI xs i=some v∧Q v H
def rIxS:R2:=fun x y H Q=>∃z i c,x= .str z∧y= .int i∧z.length≤sizeLine∧atI z.cps.toList i=some c∧Q (.str ⟨#[c]⟩) H
theorem Zu1:IxR X (rIxL X.K):=by
 intro value slice pins s σ H x y v u Q I rx ry h hs
 obtain⟨p,xs,i,z,rfl,rfl,hq,he,q⟩:=h
 cases rx
 obtain⟨t,rfl⟩:=ry
 obtain⟨its,r,pl,hz⟩:=I.list hq
 obtain⟨j,h1,h2,h3,h4,h5⟩:=G7 he
 obtain⟨w,ew,rw'⟩:=r.get h2
 have hl:=r.length
 have hn:=T9
 have fin:EP X pins σ Q w s:=⟨z,H,I,rw',q⟩
 by_cases h0:0≤i
 ·have hj:i.toNat=j:=by
   rw[seqIndex_of h0 h5] at h1
   exact Option.some.inj h1
  exact item_listR pl.isList h0 (by omega) (by rw[hj];simpa using ew) fin hs
 ·have hj:(i+(its.toArray.size:Int)).toNat=j:=by
   rw[seqIndex_neg (by omega) h4] at h1
   rw[List.size_toArray,←hl]
   exact Option.some.inj h1
  exact subscriptTail_builtinR (x:=w) pl.isList.typeIs slot_list_getitem.lookup
   (wpAny_getItem_list_neg (Q:=fun r s'=>r=w∧EP X pins σ Q r s') pl.isList (by omega) (by rw[List.size_toArray]<;>omega) (by omega) (by rw[hj];simpa using ew) ⟨rfl,fin⟩) hs
theorem Zi8:IxR X (rIxT X.K):=by
 intro value slice pins s σ H x y v u Q I rx ry h hs
 obtain⟨p,xs,i,z,rfl,rfl,hq,he,q⟩:=h
 cases rx
 obtain⟨t,rfl⟩:=ry
 obtain⟨its,r,pl,hz⟩:=I.tuple hq
 obtain⟨j,h1,h2,h3,h4,h5⟩:=G7 he
 obtain⟨w,ew,rw'⟩:=r.get h2
 have hl:=r.length
 have hn:=T9
 have fin:EP X pins σ Q w s:=⟨z,H,I,rw',q⟩
 exact subscriptTail_builtinR (x:=w) pl.typeIs slot_tuple_getitem.lookup
  (getItem_tuple (j:=j) (Q:=fun r s'=>r=w∧EP X pins σ Q r s') pl (by omega) (by omega) (by rw[List.size_toArray,←hl];exact h1) (by simpa using ew) ⟨rfl,fin⟩) hs
theorem Zx9:IxR X rIxS:=by
 intro value slice pins s σ H x y v u Q I rx ry h hs
 obtain⟨z,i,c,rfl,rfl,hz,he,q⟩:=h
 obtain⟨t,rfl⟩:=rx
 obtain⟨t',rfl⟩:=ry
 obtain⟨j,h1,h2,h3,h4,h5⟩:=G7 he
 have hl:z.cps.toList.length=z.length:=by simp[Str.length]
 rw[hl] at h1 h4 h5
 have hn:=T9
 exact tail_any (typeIs_str s z t) slot_str_getitem.lookup (getItem_str (c:=c) (by
  have e1:decide (i< -(2 ^ 63:Int))=false:=decide_eq_false (by omega)
  have e2:decide (i ≥ 2 ^ 63)=false:=decide_eq_false (by omega)
  rw[e1,e2,Bool.or_false]) (by rw[h1];simpa using h2) ⟨.str ⟨#[c]⟩,H,I.tok _,⟨_,rfl⟩,q⟩) hs
theorem B0(its:List Value)(n j:Nat)(u:Value):Obj.mapSeq (·.setIfInBounds j u) {cls:= .type "list",data:= .seq its.toArray n}={cls:= .type "list",data:= .seq (its.set j u).toArray n}:=by
 simp[Obj.mapSeq]
theorem Inv.lst{pins:List (Addr×Obj)}{σ:St}{H:Hp}{s:Shared}{p:Addr}{xs:List V}(I:Inv X pins σ H s)(h:H p=some (.lst xs)):
  ∃(its:List Value) (n:Nat),Vals xs its∧s.heap.get? p=some {cls:= .type "list",data:= .seq its.toArray n}∧xs.length≤sizeLine:=by
 obtain⟨z,its,n,r,e⟩:=I.hok p _ h
 exact⟨its,n,r,e,z⟩
theorem Inv.lstUpd{pins:List (Addr×Obj)}{σ:St}{H:Hp}{s:Shared}{p:Addr}{xs ys:List V}{its its':List Value}{n n':Nat}{f:Obj→Obj}(I:Inv X pins σ H s)(h:H p=some (.lst xs))
  (ho:s.heap.get? p=some {cls:= .type "list",data:= .seq its.toArray n}) (hf:f {cls:= .type "list",data:= .seq its.toArray n}={cls:= .type "list",data:= .seq its'.toArray n'}) (r:Vals ys its') (hz:ys.length≤sizeLine) (t:Nat):
  Inv X pins σ (upd H p (.lst ys)) {s with heap:=s.heap.update p f,toks:=t}:=by
 have e:(s.heap.update p f).get? p=some {cls:= .type "list",data:= .seq its'.toArray n'}:=by
  rw[Heap.get?_update_self f ho (by rw[hf]<;>rfl),hf]
 refine I.write (x:=p) (e:=p) (by rw[h];trivial) (.inl rfl) (fun b u hb q=>(Heap.get?_update_other _ _ (Ne.symm hb)).trans q) ⟨_,e⟩ ?_
 exact⟨hz,its',n',r,e⟩
def Y27:V→V→V→Hp→(Hp→Prop)→Prop:=fun o i v H Q=>∃p xs k j,o= .ref p∧i= .int k∧H p=some (.lst xs)∧ixN xs.length k=some j∧Q (upd H p (.lst (xs.set j v)))
theorem Zg6:PSet X Y27:=by
 intro pins s σ H o i v ov iv u Q I ro ri rv h
 obtain⟨p,xs,k,j,rfl,rfl,hp,hj,q⟩:=h
 cases ro
 obtain⟨t,rfl⟩:=ri
 obtain⟨its,n,r,ho,hz⟩:=I.lst hp
 obtain⟨h1,h2,h3,h4⟩:=Z23 hj
 have hl:=r.length
 have hn:=T9
 have I':Inv X pins σ (upd H p (.lst (xs.set j v))) {s with heap:=s.heap.update p (Obj.mapSeq (·.setIfInBounds j u))}:=
  I.lstUpd hp ho (B0 its n j u) (r.set rv j) (by rw[List.length_set];exact hz) s.toks
 by_cases h0:0≤k
 ·have hk:k.toNat=j:=by
   rw[seqIndex_of h0 h4] at h1
   exact Option.some.inj h1
  exact PySem.W.ki_setAt ho h0 (by omega) (by rw[List.size_toArray,←hl];exact h4) (by rw[hk];exact⟨_,I',q⟩)
 ·have hk:(k+(its.toArray.size:Int)).toNat=j:=by
   rw[seqIndex_neg (by omega) h3] at h1
   rw[List.size_toArray,←hl]
   exact Option.some.inj h1
  exact PySem.W.ki_setBack ho (by omega) (by rw[List.size_toArray,←hl];exact h3) (by omega) (by rw[hk];exact⟨_,I',q⟩)
theorem Jg(lo hi:Option Int)(n:Nat):(sliceBounds lo hi none n).1=((HT.sIx n 0 lo:Nat):Int)∧(sliceBounds lo hi none n).2.1=((HT.sIx n n hi:Nat):Int)∧(sliceBounds lo hi none n).2.2=1:=by
 refine⟨?_,?_,rfl⟩
 ·cases lo with
  | none=>simp[sliceBounds,HT.sIx]
  | some i=>
   simp only[sliceBounds,HT.sIx,Option.getD_none,show(1:Int) >0 by decide,if_true]
   by_cases h:i<0
   ·simp only[h,if_true]<;>omega
   ·simp only[h,if_false]<;>omega
 ·cases hi with
  | none=>simp[sliceBounds,HT.sIx]
  | some i=>
   simp only[sliceBounds,HT.sIx,Option.getD_none,show(1:Int) >0 by decide,if_true]
   by_cases h:i<0
   ·simp only[h,if_true]<;>omega
   ·simp only[h,if_false]<;>omega
theorem Oi(its:List Value)(lo hi:Option Int):slicePick its.toArray lo hi none=((its.drop (HT.sIx its.length 0 lo)).take (HT.sIx its.length its.length hi - HT.sIx its.length 0 lo)).toArray:=by
 obtain⟨h1,h2,h3⟩:=Jg lo hi its.toArray.size
 unfold slicePick
 rw[h1,h2,h3]
 simp only[sliceRange_one,pick_run,List.size_toArray]<;>rfl
def rSlL(K:PySem.W.Frag):V→Option Int→Option Int→Hp→VK→Prop:=fun x lo hi H Q=>∃a xs,x= .ref a∧SqL K H a xs∧∀p,H p=none→Q (.ref p) (upd H p (.lst (cutV xs lo hi)))
theorem Zq8:SlR X (rSlL X.K):=by
 intro pins s σ H x v vl vu lo hi sl Q I rx hs pl pu h
 obtain⟨a,xs,rfl,hx,q⟩:=h
 cases rx
 obtain⟨its,r,ht,hz⟩:=I.list hx
 have hlen:=r.length
 refine⟨"list",_,slot_list_getitem.lookup,ht.isList.typeIs,?_⟩
 refine wpAny_getItem_list_slice ht.isList hs pl pu .none (by simp) ?_ (by rw[List.size_toArray]<;>omega)
 rw[Oi,←hlen]
 refine⟨.ref s.heap.objs.size,_,I.laid (t':=s.toks) (o:= .lst (cutV xs lo hi)) (fun b ob q=>Heap.get?_push_of_some _ q) (Nat.le_refl _) ?_,rfl,q _ (I.hok.fresh (Nat.le_refl _))⟩
 exact⟨Nat.le_trans (Rp xs lo hi) hz,_,0,(r.drop (HT.sIx xs.length 0 lo)).take (HT.sIx xs.length xs.length hi - HT.sIx xs.length 0 lo),Heap.get?_push_size _ rfl⟩
noncomputable def Tp:V→Bool
 | .non=>true
 | .bl _=>true
 | .int _=>true
 | .str _=>true
 | _=>false
noncomputable def eqV:V→V→Bool
 | .non,.non=>true
 | .bl a,.bl b=>a==b
 | .bl a,.int b=>(if a then 1 else 0)==b
 | .int a,.bl b=>a==(if b then 1 else 0)
 | .int a,.int b=>a==b
 | .str a,.str b=>a==b
 | _,_=>false
theorem Y09{A:Around}{s:Shared}{y x:V}{u v:Value}(ry:RelV y u)(rx:RelV x v)(fy:Tp y=true)(fx:Tp x=true):SeqAt.EqAt A s u v (eqV y x):=by
 cases y with
 | non=>
  cases ry
  cases x with
  | non=>cases rx;exact SeqAt.EqAt.same _
  | bl b=>cases rx;exact SeqAt.EqAt.none_bool b
  | int b=>obtain⟨t,rfl⟩:=rx;exact SeqAt.EqAt.none_int b t
  | str b=>obtain⟨t,rfl⟩:=rx;exact SeqAt.EqAt.none_str b t
  | _=>exact absurd (show false=true from fx) Bool.false_ne_true
 | bl a=>
  cases ry
  cases x with
  | non=>cases rx;exact SeqAt.EqAt.bool_none a
  | bl b=>cases rx;exact SeqAt.EqAt.bool_bool a b
  | int b=>obtain⟨t,rfl⟩:=rx;exact SeqAt.EqAt.bool_int a b t
  | str b=>obtain⟨t,rfl⟩:=rx;exact SeqAt.EqAt.bool_str a b t
  | _=>exact absurd (show false=true from fx) Bool.false_ne_true
 | int a=>
  obtain⟨t',rfl⟩:=ry
  cases x with
  | non=>cases rx;exact SeqAt.EqAt.int_none a t'
  | bl b=>cases rx;exact SeqAt.EqAt.int_bool a t' b
  | int b=>obtain⟨t,rfl⟩:=rx;exact SeqAt.EqAt.int_int a t' b t
  | str b=>obtain⟨t,rfl⟩:=rx;exact SeqAt.EqAt.int_str a t' b t
  | _=>exact absurd (show false=true from fx) Bool.false_ne_true
 | str a=>
  obtain⟨t',rfl⟩:=ry
  cases x with
  | non=>cases rx;exact SeqAt.EqAt.str_none a t'
  | bl b=>cases rx;exact SeqAt.EqAt.str_bool a t' b
  | int b=>obtain⟨t,rfl⟩:=rx;exact SeqAt.EqAt.str_int a t' b t
  | str b=>obtain⟨t,rfl⟩:=rx;exact SeqAt.EqAt.str_str a t' b t
  | _=>exact absurd (show false=true from fx) Bool.false_ne_true
 | _=>exact absurd (show false=true from fy) Bool.false_ne_true
noncomputable def eqU(x:V)(u:Value):Bool:=match u with
 | .none=>eqV .non x
 | .bool b=>eqV (.bl b) x
 | .int i _=>eqV (.int i) x
 | .str z _=>eqV (.str z) x
 | _=>false
theorem Z08{x y:V}{u:Value}(r:RelV y u)(f:Tp y=true):eqU x u=eqV y x:=by
 cases y with
 | non=>cases r;rfl
 | bl b=>cases r;rfl
 | int i=>obtain⟨t,rfl⟩:=r;rfl
 | str z=>obtain⟨t,rfl⟩:=r;rfl
 | _=>exact absurd (show false=true from f) Bool.false_ne_true
theorem Qi{x:V}:∀{xs:List V} {us:List Value},Vals xs us→xs.all Tp=true→us.any (eqU x)=xs.any fun y=>eqV y x
 | _,_,.nil,_=>rfl
 | y::xs,u::us,.cons r t,f=>by
  rw[List.all_cons,Bool.and_eq_true] at f
  rw[List.any_cons,List.any_cons,Z08 r f.1,Qi t f.2]
theorem Vg{A:Around}{s:Shared}{x:V}{v:Value}(rx:RelV x v)(fx:Tp x=true):∀{xs:List V} {us:List Value},Vals xs us→xs.all Tp=true→∀u∈us,SeqAt.EqAt A s u v (eqU x u)
 | _,_,.nil,_=>fun u hu=>by cases hu
 | y::xs,u::us,.cons r t,f=>fun u' hu=>by
  rw[List.all_cons,Bool.and_eq_true] at f
  rcases List.mem_cons.mp hu with rfl | hu
  ·rw[Z08 r f.1];exact Y09 r rx f.1 fx
  ·exact Vg rx fx t f.2 u' hu
noncomputable def inV(x:V)(xs:List V):Bool:=xs.any fun y=>eqV y x
def rIn(K:PySem.W.Frag)(neg:Bool):R2:=fun x y H Q=>∃p xs,y= .ref p∧(SqL K H p xs∨SqT K H p xs)∧Tp x=true∧xs.all Tp=true∧Q (.bl (if neg then !inV x xs else inV x xs)) H
theorem Z49:OpR X (compareOp .In) (rIn X.K false):=by
 intro pins s σ H x y v u Q I rx ry h
 obtain⟨p,xs,rfl,hq,fx,fs,q⟩:=h
 cases ry
 rcases hq with hq | hq
 ·obtain⟨its,r,pl,hz⟩:=I.list hq
  refine SeqAt.in_listAt (eqU x) pl.isList (fun w hw=>Vg rx fx r fs w (by simpa using hw)) ⟨.bl _,H,I,rfl,?_⟩
  rw[show its.toArray.any (eqU x)=its.any (eqU x) by simp,Qi r fs]
  exact q
 ·obtain⟨its,r,pl,hz⟩:=I.tuple hq
  refine SeqAt.in_tupleAt (eqU x) pl (fun w hw=>Vg rx fx r fs w (by simpa using hw)) ⟨.bl _,H,I,rfl,?_⟩
  rw[show its.toArray.any (eqU x)=its.any (eqU x) by simp,Qi r fs]
  exact q
theorem J1:OpR X (compareOp .NotIn) (rIn X.K true):=by
 intro pins s σ H x y v u Q I rx ry h
 obtain⟨p,xs,rfl,hq,fx,fs,q⟩:=h
 cases ry
 rcases hq with hq | hq
 ·obtain⟨its,r,pl,hz⟩:=I.list hq
  refine SeqAt.notIn_listAt (eqU x) pl.isList (fun w hw=>Vg rx fx r fs w (by simpa using hw)) ⟨.bl _,H,I,rfl,?_⟩
  rw[show its.toArray.any (eqU x)=its.any (eqU x) by simp,Qi r fs]
  exact q
 ·obtain⟨its,r,pl,hz⟩:=I.tuple hq
  refine SeqAt.notIn_tupleAt (eqU x) pl (fun w hw=>Vg rx fx r fs w (by simpa using hw)) ⟨.bl _,H,I,rfl,?_⟩
  rw[show its.toArray.any (eqU x)=its.any (eqU x) by simp,Qi r fs]
  exact q
theorem Sh:Ww X (.builtin "len") (fun xs H Q=>∃p ys,xs=[.ref p]∧(SqL X.K H p ys∨SqT X.K H p ys)∧Q (.int ys.length) H):=by
 intro pins s σ H xs us Q I r h
 obtain⟨p,ys,rfl,hq,q⟩:=h
 obtain⟨u,rfl,rx⟩:=Sv r
 cases rx
 have hn:=T9
 rcases hq with hq | hq
 ·obtain⟨its,r',pl,hz⟩:=I.list hq
  have hlen:=r'.length
  exact Calls.call_len_list pl.isList (by simp only[List.size_toArray]<;>omega) ⟨.int ys.length,H,I.tok _,⟨s.toks+1,by rw[List.size_toArray,hlen]⟩,q⟩
 ·obtain⟨its,r',pl,hz⟩:=I.tuple hq
  have hlen:=r'.length
  exact len_tuple pl (by simp only[List.size_toArray]<;>omega) ⟨.int ys.length,H,I.tok _,⟨s.toks+1,by rw[List.size_toArray,hlen]⟩,q⟩
theorem Jz:Ww X (.builtin "len") (fun xs H Q=>∃z,xs=[.str z]∧z.length≤sizeLine∧Q (.int z.length) H):=by
 intro pins s σ H xs us Q I r h
 obtain⟨z,rfl,hz,q⟩:=h
 obtain⟨u,rfl,t,rfl⟩:=Sv r
 have hn:=T9
 exact len_str (by omega) ⟨.int z.length,H,I.tok _,⟨_,rfl⟩,q⟩
theorem G1:Ww X (.type "list") (fun xs H Q=>∃p ys,xs=[.ref p]∧(SqL X.K H p ys∨SqT X.K H p ys)∧∀l,H l=none→Q (.ref l) (upd H l (.lst ys))):=by
 intro pins s σ H xs us Q I r h
 obtain⟨p,ys,rfl,hq,q⟩:=h
 obtain⟨u,rfl,rx⟩:=Sv r
 cases rx
 have fin:∀(its:List Value),Vals ys its→ys.length≤sizeLine→∀(h':Heap) (c':Nat),(∀b o',s.heap.get? b=some o'→h'.get? b=some o')→
   h'.get? s.heap.objs.size=some {cls:= .type "list",dict:=none,data:= .seq its.toArray c',slots:=#[]}→EP X pins σ Q (.ref s.heap.objs.size) {s with heap:=h'}:=fun its r' hz h' c' kp e=>
  ⟨.ref s.heap.objs.size,_,I.laid (t':=s.toks) kp (Nat.le_refl _) (show X4 X.prog X.w _ h' _ (.lst ys) from⟨hz,its,c',r',e⟩),rfl,q _ (I.hok.fresh (Nat.le_refl _))⟩
 rcases hq with hq | hq
 ·obtain⟨its,r',pl,hz⟩:=I.list hq
  have hlen:=r'.length
  obtain⟨o,ho,hc,n,hd⟩:=pl.isList
  exact call_list_seq p (.inl rfl) ho hc hd (fun h' c' kp e=>fin its r' hz h' c' kp e) (by simp only[List.size_toArray]<;>omega)
 ·obtain⟨its,r',pl,hz⟩:=I.tuple hq
  have hlen:=r'.length
  obtain⟨o,ho,hc,n,hd⟩:=pl
  exact call_list_seq p (.inr rfl) ho hc hd (fun h' c' kp e=>fin its r' hz h' c' kp e) (by simp only[List.size_toArray]<;>omega)
def tyV(K:PySem.W.Frag)(T:String)(x:V)(H:Hp):Prop:=match x with
 | .str _=>T="str"
 | .int _=>T="int"
 | .ref p=>(T="list"∧∃xs,SqL K H p xs)∨(T="tuple"∧∃o,K.lookup p=some o∧o.cls= .type "tuple"∧o.dict=none)∨
   (T="dict"∧((∃kvs,H p=some (.dK kvs))∨∃kvs,H p=some (.dT kvs)))∨(T="set"∧∃S n,H p=some (.set S n))
 | _=>False
theorem Zk6{pins:List (Addr×Obj)}{σ:St}{H:Hp}{s:Shared}{T:String}{x:V}{v:Value}(I:Inv X pins σ H s)(r:RelV x v)(ty:tyV X.K T x H):
  s.TypeIs v T∧∀a,v= .ref a→∃ob,s.heap.get? a=some ob∧ob.dict=none:=by
 cases x with
 | str z=>
  obtain⟨t,rfl⟩:=r
  cases (show T="str" from ty)
  exact⟨typeIs_str s z t,fun _ e=>nomatch e⟩
 | int i=>
  obtain⟨t,rfl⟩:=r
  cases (show T="int" from ty)
  exact⟨typeIs_int s i t,fun _ e=>nomatch e⟩
 | ref p=>
  cases r
  rcases ty with⟨rfl,xs,hq⟩ | ⟨rfl,o,hk,hc,hd⟩ | ⟨rfl,hk⟩ | ⟨rfl,S,n,hk⟩
  ·obtain⟨its,_,pl,_⟩:=I.list hq
   refine⟨pl.isList.typeIs,fun a e=>?_⟩
   cases e
   obtain⟨o,n,e,c,hd,_⟩:=pl
   exact⟨o,e,hd⟩
  ·refine⟨⟨o,I.kIn p o hk,hc⟩,fun a e=>?_⟩
   cases e
   exact⟨o,I.kIn _ o hk,hd⟩
  ·have z:∃o,s.heap.get? p=some o∧o.ExactDict:=by
    rcases hk with⟨kvs,hk⟩ | ⟨kvs,hk⟩
    ·obtain⟨_,_,_,_,o,_,_,e,ex,_⟩:=I.hok p _ hk
     exact⟨o,e,ex⟩
    ·obtain⟨_,_,_,_,o,_,_,e,ex,_⟩:=I.hok p _ hk
     exact⟨o,e,ex⟩
   obtain⟨o,e,ex⟩:=z
   refine⟨⟨o,e,ex.1⟩,fun a e2=>?_⟩
   cases e2
   exact⟨o,e,ex.2.1⟩
  ·obtain⟨o,_,_,_,e,ex,_⟩:=I.hok p _ hk
   refine⟨⟨o,e,ex.1⟩,fun a e2=>?_⟩
   cases e2
   exact⟨o,e,ex.2.1⟩
 | _=>exact False.elim ty
def tBM0(K:PySem.W.Frag)(T:String)(r:V→List V→Hp→VK→Prop)(to:TE):TE:=fun σ H Q=>to σ H fun x H1=>tyV K T x H1∧r x [] H1 Q
def tBM(K:PySem.W.Frag)(T:String)(r:V→List V→Hp→VK→Prop)(to:TE)(t:TA):TE:=fun σ H Q=>to σ H fun x H1=>tyV K T x H1∧t σ H1 fun xs H2=>r x xs H2 Q
variable{o e:Expr}{es:List Expr}{to:TE}{t:TA}{name:Str}{apos cpos:Pos}{T id:String}{r:V→List V→Hp→VK→Prop}
theorem Y21(pa:PlainAttrs T)(slot:Slot T name id)(hty:typeOf (.builtin id)=pure (.type "method_descriptor"))(hm:MtR X id r)(ho:PE X o to)
  (hbase:attributeBase o name X.env (eval o X.env)=eval o X.env:=by rfl) (hline:(apos.endLine==cpos.line)=true:=by rfl):PE X (.Call (.Attribute o name apos) [] [] cpos) (tBM0 X.K T r to):=by
 intro pins s σ H Q I h
 refine wpAny_Call_method0_late hbase hline (thn (ho pins s σ H _ I h) fun v s1 zz36=>?_)
 obtain⟨x,H1,I1,r1,ty,q1⟩:=zz36
 obtain⟨h1,h2⟩:=Zk6 I1 r1 ty
 exact⟨T,id,pa,slot,hty,h1,h2,Calls.callWith_builtin rfl (PySem.evalArgs_none (hm pins s1 σ H1 x [] v [] Q I1 r1 .nil q1))⟩
theorem Y62(pa:PlainAttrs T)(slot:Slot T name id)(hty:typeOf (.builtin id)=pure (.type "method_descriptor"))(hm:MtR X id r)(ho:PE X o to)(ha:PA X (e::es) t)
  (hbase:attributeBase o name X.env (eval o X.env)=eval o X.env:=by rfl)
  (hfew:((backTo cpos (starEach (e::es) X.env)).all (fun x=> !x.1)&&(backToKw cpos (keywordEach [] X.env)).all (fun x=>x.1.isSome)
   &&decide ((e::es).length+([]:List Keyword).length+(if ([]:List Keyword).isEmpty then 0 else 1)<30))=true:=by rfl)
  (hline:(apos.endLine==cpos.line)=true:=by rfl) (hs:starEach (e::es) X.env=(false,eval e X.env)::starEach es X.env:=by rfl) (hplain:(backTo cpos (starEach es X.env)).any (·.1)=false:=by rfl):
  PE X (.Call (.Attribute o name apos) (e::es) [] cpos) (tBM X.K T r to t):=by
 intro pins s σ H Q I h
 refine wpAny_Call_method_late hbase hfew hline rfl (thn (ho pins s σ H _ I h) fun v s1 zz37=>?_)
 obtain⟨x,H1,I1,r1,ty,q1⟩:=zz37
 obtain⟨h1,h2⟩:=Zk6 I1 r1 ty
 refine⟨T,id,pa,slot,hty,h1,h2,?_⟩
 have hA:=ha cpos pins s1 σ H1 _ I1 q1
 rw[hs] at hA ⊢
 refine Calls.callWith_builtin (by show(false || (backTo cpos (starEach es X.env)).any (·.1))=false;rw[hplain]<;>rfl) (Calls.evalArgs_plain ?_)
 exact thn hA fun us s2 zz38=>by obtain⟨vs,H2,I2,r2,q2⟩:=zz38;exact hm pins s2 σ H2 x vs v us Q I2 r1 r2 q2
end
def MtM(X:Cx)(id:String)(r:V→List V→Hp→VK→Prop):Prop:=
 ∀(pins:List (Addr×Obj)) (s:Shared) (σ:St) (H:Hp) (x:V) (xs:List V) (v:Value) (us:List Value) (Q:VK),Inv X pins σ H s→RelV x v→Vals xs us→r x xs H Q→
  wpAny (model X.prog X.w) X.A (call (.builtin id) (v::us)) (EP X pins σ Q) X.xe s
theorem Vals.one:∀{x:V} {us:List Value},Vals [x] us→∃u,us=[u]∧RelV x u
 | _,_,.cons r .nil=>⟨_,rfl,r⟩
theorem Vals.zero:∀{us:List Value},Vals [] us→us=[]
 | _,.nil=>rfl
theorem Vals.dropLast{xs:List V}{us:List Value}(h:Vals xs us):Vals xs.dropLast us.dropLast:=by
 induction h with
 | nil=>exact .nil
 | cons r t ih=>
  cases t with
  | nil=>exact .nil
  | cons q t'=>exact .cons r ih
theorem Vals.reverse{xs:List V}{us:List Value}(h:Vals xs us):Vals xs.reverse us.reverse:=by
 induction h with
 | nil=>exact .nil
 | cons r t ih=>rw[List.reverse_cons,List.reverse_cons];exact Vals.append ih (.cons r .nil)
theorem Vals.rep{xs:List V}{us:List Value}(h:Vals xs us):∀k:Nat,Vals (List.replicate k xs).flatten (List.replicate k us).flatten
 | 0=> .nil
 | k+1=>by
  rw[List.replicate_succ,List.replicate_succ,List.flatten_cons,List.flatten_cons]
  exact Vals.append h (Vals.rep h k)
theorem Ci{α:Type}(l:List α):l.eraseIdx (l.length - 1)=l.dropLast:=by
 induction l with
 | nil=>rfl
 | cons a r ih=>
  cases r with
  | nil=>rfl
  | cons b r=>
   have e:(a::b::r).length - 1=((b::r).length - 1)+1:=by
    have h1:(a::b::r).length=r.length+2:=rfl
    have h2:(b::r).length=r.length+1:=rfl
    omega
   rw[e,List.eraseIdx_cons_succ,ih]
   all_goals rfl
theorem J6(its:List Value):∀(k:Nat) (acc:List Value),
  List.foldl (fun x1 x2=>x1++x2) acc.toArray (List.replicate k its.toArray)=(acc++(List.replicate k its).flatten).toArray
 | 0,acc=>by simp
 | k+1,acc=>by
  have e:acc.toArray++its.toArray=(acc++its).toArray:=by simp
  have e2:(acc++its)++(List.replicate k its).flatten=acc++(List.replicate (k+1) its).flatten:=by
   rw[List.replicate_succ,List.flatten_cons,List.append_assoc]
  rw[←e2,←J6 its k (acc++its),←e,List.replicate_succ,List.foldl_cons]
section
variable{X:Cx}{pins:List (Addr×Obj)}{σ:St}{H:Hp}{s:Shared}{l b:Addr}{xs ys zs:List V}
theorem Inv.lset{its its':List Value}{n:Nat}{f:Array Value→Array Value}{t':Nat}(I:Inv X pins σ H s)(hH:H l=some (.lst xs))
  (e:s.heap.get? l=some {cls:= .type "list",data:= .seq its.toArray n}) (hf:f its.toArray=its'.toArray) (hv:Vals ys its') (hz:ys.length≤sizeLine):
  Inv X pins σ (upd H l (.lst ys)) {s with heap:=s.heap.update l (Obj.mapSeq f),toks:=t'}:=by
 have q:=PySem.IsL.update e f
 rw[hf] at q
 refine I.write (x:=l) (e:=l) (by rw[hH];exact trivial) (.inl rfl) (fun b' u hb hu=>(Heap.get?_update_other s.heap (Obj.mapSeq f) (Ne.symm hb)).trans hu) ⟨_,q⟩ ?_
 exact⟨hz,its',_,hv,q⟩
theorem Inv.lnew{its:List Value}{t':Nat}(I:Inv X pins σ H s)(hv:Vals ys its)(hz:ys.length≤sizeLine):
  Inv X pins σ (upd H s.heap.objs.size (.lst ys)) {s with heap:=s.heap.push {cls:= .type "list",data:= .seq its.toArray},toks:=t'}:=
 I.laid (fun _ _ q=>Heap.get?_push_of_some _ q) (Nat.le_refl _) ⟨hz,its,0,hv,Heap.get?_push_size _ rfl⟩
theorem Inv.fresh(I:Inv X pins σ H s):H s.heap.objs.size=none:=I.hok.fresh (Nat.le_refl _)
theorem Inv.lstM(I:Inv X pins σ H s)(hH:H l=some (.lst xs)):xs.length≤sizeLine∧∃(its:List Value) (n:Nat),Vals xs its∧xs.length=its.length∧s.heap.get? l=some {cls:= .type "list",data:= .seq its.toArray n}:=by
 obtain⟨z,its,n,r,e⟩:=I.hok l _ hH
 exact⟨z,its,n,r,r.length,e⟩
theorem Ei{n:Nat}(h:n≤sizeLine):Builtin.List.listTooLong n=false:=by
 unfold Builtin.List.listTooLong
 exact decide_eq_false (by omega)
end
section
variable{X:Cx}
def Zu6:V→List V→Hp→VK→Prop:=fun x vs H Q=>∃l xs y,x= .ref l∧vs=[y]∧H l=some (.lst xs)∧xs.length<sizeLine∧Q .non (upd H l (.lst (xs++[y])))
theorem Rv:MtM X "list.append" Zu6:=by
 intro pins s σ H x vs v us Q I rx rv h
 obtain⟨l,xs,y,rfl,rfl,hH,hz,q⟩:=h
 cases rx
 obtain⟨u,rfl,ru⟩:=rv.one
 obtain⟨z,its,n,r,hl,e⟩:=I.lstM hH
 refine call_meets F.slot_list_append ⟨_,e,rfl⟩ F.entry_list_append (F.args_list_append_2 _ _) (PySem.list_append l its.toArray n u (by rw[List.size_toArray];omega)) ⟨e,?_⟩
 refine⟨.non,_,I.lset (its':=its++[u]) hH e (by simp) (r.append (.cons ru .nil)) ?_,rfl,q⟩
 rw[List.length_append,List.length_singleton]
 omega
def Zv8:V→List V→Hp→VK→Prop:=fun x vs H Q=>∃l b xs zs,x= .ref l∧vs=[.ref b]∧H l=some (.lst xs)∧H b=some (.lst zs)∧xs.length+zs.length≤sizeLine∧Q .non (upd H l (.lst (xs++zs)))
theorem B7:MtM X "list.extend" Zv8:=by
 intro pins s σ H x vs v us Q I rx rv h
 obtain⟨l,b,xs,zs,rfl,rfl,hH,hB,hz,q⟩:=h
 cases rx
 obtain⟨u,rfl,ru⟩:=rv.one
 cases ru
 obtain⟨z,its,n,r,hl,e⟩:=I.lstM hH
 obtain⟨z2,its2,n2,r2,hl2,e2⟩:=I.lstM hB
 have hsz:its.toArray.size+its2.toArray.size≤sizeLine:=by rw[List.size_toArray,List.size_toArray];omega
 have hlong:¬(!its.toArray.isEmpty&&Builtin.List.listTooLong (its.toArray.size+its2.toArray.size))=true:=by
  rw[Ei hsz,Bool.and_false]
  exact Bool.false_ne_true
 refine call_meets F.slot_list_extend ⟨_,e,rfl⟩ F.entry_list_extend (F.args_list_extend_2 _ _)
  (AutoSeq1.list_extend_list_list_0 l its.toArray n b its2.toArray n2 hlong (by rw[List.size_toArray];omega) (by omega)) ⟨e,e2,?_⟩
 refine⟨.non,_,I.lset (its':=its++its2) hH e (by simp) (r.append r2) ?_,rfl,q⟩
 rw[List.length_append]
 omega
def rPop:V→List V→Hp→VK→Prop:=fun x vs H Q=>∃l xs y,x= .ref l∧vs=[]∧H l=some (.lst xs)∧xs[xs.length - 1]?=some y∧Q y (upd H l (.lst xs.dropLast))
theorem Y43:MtM X "list.pop" rPop:=by
 intro pins s σ H x vs v us Q I rx rv h
 obtain⟨l,xs,y,rfl,rfl,hH,hy,q⟩:=h
 cases rx
 have hus:=rv.zero
 subst hus
 obtain⟨z,its,n,r,hl,e⟩:=I.lstM hH
 obtain⟨u,hu,ru⟩:=r.get hy
 have hy':its.toArray[its.toArray.size - 1]?=some u:=by
  show its.toArray[its.length - 1]?=some u
  rw[←Array.getElem?_toList,←hl]
  exact hu
 refine call_meets F.slot_list_pop ⟨_,e,rfl⟩ F.entry_list_pop (F.args_list_pop_1 _) (MeetsSeq.list_pop_last l its.toArray n u hy' (by rw[List.size_toArray];omega)) ⟨e,?_⟩
 refine⟨y,_,I.lset (its':=its.dropLast) hH e ?_ r.dropLast ?_,ru,q⟩
 ·show its.toArray.eraseIdxIfInBounds (its.toArray.size - 1)=its.dropLast.toArray
  rw[List.size_toArray,List.eraseIdxIfInBounds_toArray,Ci]
 ·rw[List.length_dropLast]
  omega
def rCat:R2:=fun x y H Q=>∃l b xs zs,x= .ref l∧y= .ref b∧H l=some (.lst xs)∧H b=some (.lst zs)∧xs.length+zs.length≤sizeLine∧∀p,H p=none→Q (.ref p) (upd H p (.lst (xs++zs)))
theorem Y33:OpR X (binaryOp .Add) rCat:=by
 intro pins s σ H x y v u Q I rx ry h
 obtain⟨l,b,xs,zs,rfl,rfl,hH,hB,hz,q⟩:=h
 cases rx
 cases ry
 obtain⟨z,its,n,r,hl,e⟩:=I.lstM hH
 obtain⟨z2,its2,n2,r2,hl2,e2⟩:=I.lstM hB
 refine PySem.P.add_list e e2 ?_ (by rw[List.size_toArray,List.size_toArray];omega)
 have ea:its.toArray++its2.toArray=(its++its2).toArray:=by simp
 rw[ea]
 exact⟨.ref _,_,I.lnew (t':=s.toks) (r.append r2) (by rw[List.length_append];omega),rfl,q _ I.fresh⟩
def rRep:R2:=fun x y H Q=>∃l k xs,x= .ref l∧y= .int k∧H l=some (.lst xs)∧ -(2 ^ 63)≤k∧k<2 ^ 63∧xs.length * k.toNat≤sizeLine∧
 ∀p,H p=none→Q (.ref p) (upd H p (.lst (List.replicate k.toNat xs).flatten))
theorem Zt7{α:Type}(xs:List α)(k:Nat):(List.replicate k xs).flatten.length=k * xs.length:=by
 induction k with
 | zero=>simp
 | succ k ih=>rw[List.replicate_succ,List.flatten_cons,List.length_append,ih,Nat.succ_mul,Nat.add_comm]
theorem Y26:OpR X (binaryOp .Mult) rRep:=by
 intro pins s σ H x y v u Q I rx ry h
 obtain⟨l,k,xs,rfl,rfl,hH,h1,h2,hz,q⟩:=h
 cases rx
 obtain⟨t,rfl⟩:=ry
 obtain⟨z,its,n,r,hl,e⟩:=I.lstM hH
 have hlen:its.toArray.size * k.toNat≤sizeLine:=by rw[List.size_toArray,←hl];exact hz
 have hcap:¬its.toArray.size * k.toNat >(2 ^ 63 - 1) / 8:=by
  have:(sizeLine:Nat)≤(2 ^ 63 - 1) / 8:=by decide
  omega
 have hfit:¬(!Builtin.List.listFitsIndex k)=true:=by
  rw[fitsIndex_both h1 h2]
  exact Bool.false_ne_true
 have hlong:¬Builtin.List.listTooLong (its.toArray.size * k.toNat)=true:=by
  rw[Ei hlen]
  exact Bool.false_ne_true
 have hnew:List.foldl (fun x1 x2=>x1++x2) #[] (List.replicate (if its.toArray.isEmpty=true then 0 else k.toNat) its.toArray)=(List.replicate k.toNat its).flatten.toArray:=by
  have f0:∀m:Nat,List.foldl (fun x1 x2=>x1++x2) #[] (List.replicate m its.toArray)=(List.replicate m its).flatten.toArray:=fun m=>by
   have:=J6 its m []
   rw[List.nil_append] at this
   exact this
  rw[f0]
  cases its with
  | nil=>simp
  | cons a r'=>rw[if_neg (by simp)]
 refine wpAny_binaryOp_repeat_ref (T:="list") (U:="int") (by decide) ⟨_,e,rfl⟩ (fun s'=>typeIs_int s' k t) noFill_list_mul F.fills_int_mul F.slot_int_rmul repeat_list F.slot_int_index.lookup
  (call_meets F.slot_int_rmul (typeIs_int s k t) F.entry_int_rmul (F.args_int_rmul_2 _ _) (int___rmul___int_list k t l its.toArray n)
   ⟨e,rfl,⟨_,e,rfl⟩,call_meets F.slot_list_mul ⟨_,e,rfl⟩ F.entry_list_mul (F.args_list_mul_2 _ _) (AutoListH.list___mul___list_int_3 l its.toArray n k t hfit hcap hlong) ⟨e,?_⟩⟩)
 rw[hnew]
 exact⟨.ref _,_,I.lnew (t':=s.toks) (r.rep k.toNat) (by rw[Zt7,Nat.mul_comm];exact hz),rfl,q _ I.fresh⟩
end
section
variable{prog:Program}{w:World}{A:Around}{E:Value→Shared→Prop}{s:Shared}
set_option maxRecDepth 100000 in
end
section
variable{X:Cx}
end
section
variable{κ:Type}[DecidableEq κ]
noncomputable def valV(kvs:List (κ×V))(k:κ):Option V:=(kvs.find? fun kv=>decide (kv.1=k)).map (·.2)
noncomputable def putK(kvs:List (κ×V))(k:κ)(v:V):List (κ×V):=
 if (kvs.any fun kv=>decide (kv.1=k))=true then kvs.map (fun kv=>if kv.1=k then(kv.1,v) else kv) else kvs++[(k,v)]
theorem Oy{p:κ×V}{r:List (κ×V)}{k:κ}(e:p.1=k):valV (p::r) k=some p.2:=by simp[valV,List.find?_cons,e]
theorem Ou{p:κ×V}{r:List (κ×V)}{k:κ}(e:¬p.1=k):valV (p::r) k=valV r k:=by simp[valV,List.find?_cons,e]
theorem Fg(k:κ):∀kvs:List (κ×V),(kvs.any fun kv=>decide (kv.1=k))=(valV kvs k).isSome
 | []=>rfl
 | p::r=>by
  rw[List.any_cons]
  by_cases e:p.1=k
  ·simp only[Oy e,decide_eq_true e,Bool.true_or,Option.isSome_some]
  ·rw[Ou e,decide_eq_false e,Bool.false_or];exact Fg k r
theorem T7(kvs:List (κ×V))(k:κ)(v:V):(putK kvs k v).length≤kvs.length+1:=by
 unfold putK
 split
 ·rw[List.length_map];omega
 ·rw[List.length_append,List.length_cons,List.length_nil];omega
theorem RelO.isSome_eq{o:Option V}{u:Option Value}(r:RelO o u):o.isSome=u.isSome:=by
 cases o with
 | none=>cases u with
  | none=>rfl
  | some _=>exact(show False from r).elim
 | some _=>cases u with
  | none=>exact(show False from r).elim
  | some _=>rfl
theorem RelO.getD{o:Option V}{u:Option Value}{d:V}{d':Value}(r:RelO o u)(rd:RelV d d'):RelV (o.getD d) (u.getD d'):=by
 cases o with
 | none=>cases u with
  | none=>exact rd
  | some _=>exact(show False from r).elim
 | some _=>cases u with
  | none=>exact(show False from r).elim
  | some _=>exact r
theorem KV.val{kvs:List (κ×V)}{vs:List (κ×Value)}(r:KV kvs vs)(k:κ):RelO (valV kvs k) (valueAt vs k):=by
 unfold KV at r
 induction r with
 | nil=>exact True.intro
 | @cons p q ps qs h t ih=>
  obtain⟨h1,h2⟩:=h
  by_cases e:p.1=k
  ·have e':q.1=k:=h1.symm.trans e
   have b:valueAt (q::qs) k=some q.2:=by simp[valueAt,List.find?_cons,e']
   rw[Oy e,b];exact h2
  ·have e':¬q.1=k:=fun z=>e (h1.trans z)
   have b:valueAt (q::qs) k=valueAt qs k:=by simp[valueAt,List.find?_cons,e']
   rw[Ou e,b];exact ih
theorem KV.any{kvs:List (κ×V)}{vs:List (κ×Value)}(r:KV kvs vs)(k:κ):(kvs.any fun kv=>decide (kv.1=k))=vs.any fun kv=>decide (kv.1=k):=by
 unfold KV at r
 induction r with
 | nil=>rfl
 | cons h t ih=>rw[List.any_cons,List.any_cons,ih,h.1]
theorem KV.repl{kvs:List (κ×V)}{vs:List (κ×Value)}(r:KV kvs vs)(k:κ){y:V}{u:Value}(ry:RelV y u):
  KV (kvs.map fun kv=>if kv.1=k then(kv.1,y) else kv) (vs.map fun kv=>if kv.1=k then(kv.1,u) else kv):=by
 unfold KV at r ⊢
 induction r with
 | nil=>exact .nil
 | @cons p q ps qs h t ih=>
  rw[List.map_cons,List.map_cons]
  refine .cons ?_ ih
  obtain⟨h1,h2⟩:=h
  by_cases e:p.1=k
  ·rw[if_pos e,if_pos (h1.symm.trans e)];exact⟨h1,ry⟩
  ·rw[if_neg e,if_neg (fun z=>e (h1.trans z))];exact⟨h1,h2⟩
theorem KV.put{kvs:List (κ×V)}{vs:List (κ×Value)}(r:KV kvs vs)(k:κ){y:V}{u:Value}(ry:RelV y u):KV (putK kvs k y) (stored vs k u):=by
 unfold putK stored
 rw[r.any k]
 by_cases e:(vs.any fun kv=>decide (kv.1=k))=true
 ·rw[if_pos e,if_pos e];exact r.repl k ry
 ·rw[if_neg e,if_neg e];exact Paired.snoc r ⟨rfl,ry⟩
theorem KV.length{kvs:List (κ×V)}{vs:List (κ×Value)}(r:KV kvs vs):kvs.length=vs.length:=Paired.length r
end
theorem Oq{P:Program}{w:World}{k:Key}{u:Value}(r:RelV (kV k) u):(Zz P w).is k u=true:=by
 cases k with
 | inl i=>obtain⟨t,e⟩:=(show ∃t,u=Value.int i t from r);subst e;exact Ga P w i t
 | inr x=>obtain⟨t,e⟩:=(show ∃t,u=Value.str x t from r);subst e;exact Gi P w x t
theorem J2{P:Program}{w:World}:∀{ks:List Key} {us:List Value},Vals (ks.map kV) us→ItemsAre (Zz P w) ks us
 | [],_,r=>by rw[List.map_nil] at r;cases r;exact .nil
 | k::ks,_,r=>by
  rw[List.map_cons] at r
  cases r with
  | cons h t=>exact .cons (Oq h) (J2 t)
abbrev KT(H:Hp):List (List Key×V)→List (List Key×Addr×Value)→Prop:=Paired fun p q=>p.1=q.1∧H q.2.1=some (.tup (p.1.map kV))∧RelV p.2 q.2.2
theorem KT.val{H:Hp}{kvs:List (List Key×V)}{xs:List (List Key×Addr×Value)}(r:KT H kvs xs)(k:List Key):RelO (valV kvs k) ((atKey xs k).map (·.2)):=by
 induction r with
 | nil=>exact True.intro
 | @cons p q ps qs h t ih=>
  obtain⟨h1,_,h2⟩:=h
  by_cases e:p.1=k
  ·have e':q.1=k:=h1.symm.trans e
   have b:atKey (q::qs) k=some q.2:=by simp[atKey,List.find?_cons,e']
   rw[Oy e,b];exact h2
  ·have e':¬q.1=k:=fun z=>e (h1.trans z)
   have b:atKey (q::qs) k=atKey qs k:=by simp[atKey,List.find?_cons,e']
   rw[Ou e,b];exact ih
theorem KT.repl{H:Hp}{kvs:List (List Key×V)}{xs:List (List Key×Addr×Value)}(r:KT H kvs xs)(k:List Key){y:V}{u:Value}(ry:RelV y u):
  KT H (kvs.map fun kv=>if kv.1=k then(kv.1,y) else kv) (xs.map (putAt k u)):=by
 induction r with
 | nil=>exact .nil
 | @cons p q ps qs h t ih=>
  rw[List.map_cons,List.map_cons]
  refine .cons ?_ ih
  obtain⟨h1,h2,h3⟩:=h
  unfold putAt
  by_cases e:p.1=k
  ·rw[if_pos e,if_pos (h1.symm.trans e)];exact⟨h1,h2,ry⟩
  ·rw[if_neg e,if_neg (fun z=>e (h1.trans z))];exact⟨h1,h2,h3⟩
theorem KT.put{H:Hp}{kvs:List (List Key×V)}{xs:List (List Key×Addr×Value)}(r:KT H kvs xs)(k:List Key){b:Addr}{y:V}{u:Value}(hb:H b=some (.tup (k.map kV)))(ry:RelV y u):
  KT H (putK kvs k y) (storedH xs k b u):=by
 have e:(kvs.any fun kv=>decide (kv.1=k))=(atKey xs k).isSome:=by
  rw[Fg,(r.val k).isSome_eq,Option.isSome_map]
 unfold putK storedH
 rw[e]
 by_cases q:(atKey xs k).isSome=true
 ·rw[if_pos q,if_pos q];exact r.repl k ry
 ·rw[if_neg q,if_neg q];exact Paired.snoc r ⟨rfl,hb,ry⟩
theorem KT.keeps{H H':Hp}{kvs:List (List Key×V)}{xs:List (List Key×Addr×Value)}(r:KT H kvs xs)(ht:∀b ys,H b=some (.tup ys)→H' b=some (.tup ys)):KT H' kvs xs:=
 Paired.mapP r fun _ _ z=>⟨z.1,ht _ _ z.2.1,z.2.2⟩
section
variable{P:Program}{w:World}{H:Hp}{h:Heap}{a:Addr}
theorem Zw7{u:HO}(ok:HOk P w H h)(e:Rd H a u):X4 P w H h a u:=e.ok ok
theorem Ji{kvs:List (Key×V)}(ok:HOk P w H h)(e:Rd H a (.dK kvs)):kvs.length≤sizeLine∧(a==sysModules)=false∧∃vs,KV kvs vs∧h.DictOf (Zz P w) a vs:=
 show X4 P w H h a (.dK kvs) from Zw7 ok e
theorem Z20{kvs:List (Key×V)}(ok:HOk P w H h)(e:H a=some (.dK kvs)):kvs.length≤sizeLine∧(a==sysModules)=false∧∃vs,KV kvs vs∧h.DictOf (Zz P w) a vs:=Ji ok (.inl e)
theorem Pj{ks:List Key}(ok:HOk P w H h)(e:H a=some (.tup (ks.map kV))):(tupleKind (Zz P w)).is h ks a:=by
 obtain⟨_,its,r,o,h1,h2,n,h3⟩:=(show X4 P w H h a (.tup (ks.map kV)) from ok a _ e)
 exact⟨o,its.toArray,n,h1,h2,h3,by simpa using J2 r⟩
theorem Cz{kvs:List (List Key×V)}(ok:HOk P w H h)(e:Rd H a (.dT kvs)):kvs.length≤sizeLine∧(a==sysModules)=false∧
  ∃xs,KT H kvs xs∧h.DictOfH (tupleKind (Zz P w)) a xs:=by
 obtain⟨z,y,xs,r,o,es,ep,h1,h2,h3,h4,h5⟩:=(show X4 P w H h a (.dT kvs) from Zw7 ok e)
 refine⟨z,y,xs,r,o,es,ep,h1,h2,h3,h4,fun x hx=>?_,h5⟩
 have all:∀{l:List (List Key×V)} {m:List (List Key×Addr×Value)},KT H l m→∀x∈m,(tupleKind (Zz P w)).is h x.1 x.2.1:=by
  intro l m q
  induction q with
  | nil=>intro x hx;exact nomatch hx
  | @cons p q ps qs hq t ih=>
   intro x hx
   rcases List.mem_cons.mp hx with e | hx
   ·subst e
    exact Pj ok (by rw[←hq.1];exact hq.2.1)
   ·exact ih x hx
 exact all r x hx
theorem Y51{kvs:List (List Key×V)}(ok:HOk P w H h)(e:H a=some (.dT kvs)):kvs.length≤sizeLine∧(a==sysModules)=false∧
  ∃xs,KT H kvs xs∧h.DictOfH (tupleKind (Zz P w)) a xs:=Cz ok (.inl e)
end
def DGet(H:Hp)(a:Addr)(y:V)(r:Option V):Prop:=
 (∃kvs k,Rd H a (.dK kvs)∧y=kV k∧r=valV kvs k)∨∃kvs k b,Rd H a (.dT kvs)∧y= .ref b∧H b=some (.tup (k.map kV))∧r=valV kvs k
def DPut(H:Hp)(a:Addr)(y v:V)(H':Hp):Prop:=
 (∃kvs k,H a=some (.dK kvs)∧y=kV k∧kvs.length<sizeLine∧H'=upd H a (.dK (putK kvs k v)))∨
 ∃kvs k b,H a=some (.dT kvs)∧y= .ref b∧H b=some (.tup (k.map kV))∧kvs.length<sizeLine∧H'=upd H a (.dT (putK kvs k v))
theorem DGet.k{H:Hp}{a:Addr}{kvs:List (Key×V)}{k:Key}(e:H a=some (.dK kvs)):DGet H a (kV k) (valV kvs k):= .inl ⟨kvs,k,.inl e,rfl,rfl⟩
theorem DGet.t{H:Hp}{a b:Addr}{kvs:List (List Key×V)}{k:List Key}(e:H a=some (.dT kvs))(eb:H b=some (.tup (k.map kV))):DGet H a (.ref b) (valV kvs k):= .inr ⟨kvs,k,b,.inl e,rfl,eb,rfl⟩
theorem DPut.k{H:Hp}{a:Addr}{kvs:List (Key×V)}{k:Key}{v:V}(e:H a=some (.dK kvs))(hl:kvs.length<sizeLine):DPut H a (kV k) v (upd H a (.dK (putK kvs k v))):= .inl ⟨kvs,k,e,rfl,hl,rfl⟩
theorem DPut.t{H:Hp}{a b:Addr}{kvs:List (List Key×V)}{k:List Key}{v:V}(e:H a=some (.dT kvs))(eb:H b=some (.tup (k.map kV)))(hl:kvs.length<sizeLine):
  DPut H a (.ref b) v (upd H a (.dT (putK kvs k v))):= .inr ⟨kvs,k,b,e,rfl,eb,hl,rfl⟩
section
variable{X:Cx}{pins:List (Addr×Obj)}{σ:St}{H:Hp}{s:Shared}{a:Addr}{y v:V}{u r:Value}{o:Option V}{A:Around}{E:Value→Shared→Prop}
theorem Inv.big(I:Inv X pins σ H s):sysModules<s.heap.objs.size:=by
 have h:mainGlobals<s.heap.objs.size:=(I.mod.glob.keeps I.bk).lt
 exact Nat.lt_trans (by decide) h
theorem Z66{Q:Value→Shared→Prop}(hu:A.units+1<cLine)(I:Inv X pins σ H s)(g:DGet H a y (some v))(ry:RelV y u)(h:∀w' s',Inv X pins σ H s'→RelV v w'→Q w' s'):
  wpAny (model X.prog X.w) A (getItem (.ref a) u) Q E s:=by
 rcases g with⟨kvs,k,e,ey,l⟩ | ⟨kvs,k,b,e,ey,eb,l⟩
 ·subst ey
  obtain⟨z,hd,vs,rel,dd⟩:=Ji I.hok e
  obtain⟨w',hw,rw'⟩:=RelO.some_of (v:=v) (o:=valueAt vs k) (by rw[l];exact rel.val k)
  exact wpAny_getItem_of (Oq ry) dd.mapOf hw (h w' _ (I.tok _) rw')
 ·subst ey
  cases (show u=Value.ref b from ry)
  obtain⟨z,hd,xs,rel,dd⟩:=Cz I.hok e
  obtain⟨w',hw,rw'⟩:=RelO.some_of (v:=v) (o:=(atKey xs k).map (·.2)) (by rw[l];exact rel.val k)
  obtain⟨p,hp,hp2⟩:=Option.map_eq_some_iff.mp hw
  refine wpAny_getItem_heap (tupleKind_room_in1 hu) (Pj I.hok eb) dd hp ?_
  rw[hp2]
  exact h w' _ (I.tok _) rw'
theorem d_in{Q:Value→Shared→Prop}(hu:A.units+1<cLine)(I:Inv X pins σ H s)(g:DGet H a y o)(ry:RelV y u)(h:∀s',Inv X pins σ H s'→Q (.bool o.isSome) s'):
  wpAny (model X.prog X.w) A (compareOp .In u (.ref a)) Q E s:=by
 rcases g with⟨kvs,k,e,ey,l⟩ | ⟨kvs,k,b,e,ey,eb,l⟩
 ·subst ey
  obtain⟨z,hd,vs,rel,dd⟩:=Ji I.hok e
  refine wpAny_in_of (Oq ry) hd dd.mapOf ?_
  rw[←(rel.val k).isSome_eq,←l]
  exact h _ (I.tok _)
 ·subst ey
  cases (show u=Value.ref b from ry)
  obtain⟨z,hd,xs,rel,dd⟩:=Cz I.hok e
  refine wpAny_in_heap (tupleKind_room_in1 hu) (Pj I.hok eb) hd dd ?_
  have q:=(rel.val k).isSome_eq
  rw[Option.isSome_map] at q
  rw[←q,←l]
  exact h _ (I.tok _)
theorem Zn7{Q:Value→Shared→Prop}(hu:A.units+1<cLine)(I:Inv X pins σ H s)(g:DGet H a y o)(ry:RelV y u)(h:∀s',Inv X pins σ H s'→Q (.bool (!o.isSome)) s'):
  wpAny (model X.prog X.w) A (compareOp .NotIn u (.ref a)) Q E s:=by
 rcases g with⟨kvs,k,e,ey,l⟩ | ⟨kvs,k,b,e,ey,eb,l⟩
 ·subst ey
  obtain⟨z,hd,vs,rel,dd⟩:=Ji I.hok e
  refine wpAny_notIn_of (Oq ry) hd dd.mapOf ?_
  rw[←(rel.val k).isSome_eq,←l]
  exact h _ (I.tok _)
 ·subst ey
  cases (show u=Value.ref b from ry)
  obtain⟨z,hd,xs,rel,dd⟩:=Cz I.hok e
  refine wpAny_notIn_heap (tupleKind_room_in1 hu) (Pj I.hok eb) hd dd ?_
  have q:=(rel.val k).isSome_eq
  rw[Option.isSome_map] at q
  rw[←q,←l]
  exact h _ (I.tok _)
theorem Pw{h':Heap}{t':Nat}{ob:HO}(I:Inv X pins σ H s)(mu:Mut (H a))(hs:Heap.SameBut a s.heap h')(he:∃q,h'.get? a=some q)(new:X4 X.prog X.w (upd H a ob) h' a ob):
  Inv X pins σ (upd H a ob) {s with heap:=h',toks:=t'}:=
 I.write (x:=a) (e:=a) mu (.inl rfl) (fun b q hb z=>(hs.2 b hb).trans z) he new
theorem Z21{P:Program}{w:World}{H':Hp}{h':Heap}{kvs:List (Key×V)}{vs:List (Key×Value)}(z:kvs.length≤sizeLine)(hd:(a==sysModules)=false)(rel:KV kvs vs)(dd:h'.DictOf (Zz P w) a vs):
  X4 P w H' h' a (.dK kvs):=⟨z,hd,vs,rel,dd⟩
theorem Z38{H':Hp}{Q:Unit→Shared→Prop}(hu:A.units+1<cLine)(I:Inv X pins σ H s)(g:DPut H a y v H')(ry:RelV y u)(rv:RelV v r)(h:∀s',Inv X pins σ H' s'→Q () s'):
  wpAny (model X.prog X.w) A (setItem (.ref a) u r) Q E s:=by
 rcases g with⟨kvs,k,e,ey,l,eH⟩ | ⟨kvs,k,b,e,ey,eb,l,eH⟩
 ·subst ey eH
  obtain⟨z,hd,vs,rel,dd⟩:=Z20 I.hok e
  have hz:vs.length≤sizeLine:=by rw[←rel.length];exact z
  have hl:(putK kvs k v).length≤sizeLine:=by have:=T7 kvs k v;omega
  refine wpAny_setItem_pairs (hsz:=hz) (Oq ry) dd fun h' dd' hs=>h _ ?_
  have he:∃q,h'.get? a=some q:=by obtain⟨q,_,_,hq,_⟩:=dd';exact⟨q,hq⟩
  exact Pw I (by rw[e];exact True.intro) hs he (Z21 hl hd (rel.put k rv) dd')
 ·subst ey eH
  cases (show u=Value.ref b from ry)
  obtain⟨z,hd,xs,rel,dd⟩:=Y51 I.hok e
  have hz:xs.length≤sizeLine:=by rw[←Paired.length rel];exact z
  have hl:(putK kvs k v).length≤sizeLine:=by have:=T7 kvs k v;omega
  refine wpAny_setItem_heap (hsz:=hz) (tupleKind_room_in1 hu) (Pj I.hok eb) dd fun h' dd' hs=>h _ ?_
  obtain⟨q,es,ep,hq,h2,h3,h4,_,h5⟩:=dd'
  refine Pw I (by rw[e];exact True.intro) hs ⟨q,hq⟩ ⟨hl,hd,_,(rel.put k eb rv).keeps fun c ys ec=>?_,q,es,ep,hq,h2,h3,h4,h5⟩
  rw[Zf (Y72 ec e (fun z=>nomatch z))]
  exact ec
end
section
variable{X:Cx}{pins:List (Addr×Obj)}{σ:St}{H:Hp}{s:Shared}{a:Addr}{kvs:List (Key×V)}{k:Key}{u:Value}{A:Around}{E:Value→Shared→Prop}
theorem Zr5{Q:Value→Shared→Prop}(I:Inv X pins σ H s)(e:H a=some (.dK kvs))(h:∀s',Inv X pins σ (upd H a (.dK [])) s'→Q .none s'):wpAny (model X.prog X.w) A (call (.builtin "dict.clear") [.ref a]) Q E s:=by
 obtain⟨z,hd,vs,rel,dd⟩:=Z20 I.hok e
 refine call_meetsIn PySem.F.slot_dict_clear dd.typeIs PySem.F.entry_dict_clear (PySem.F.args_dict_clear_1 _) (meets_dict_clear (Zz X.prog X.w) a) ⟨vs,dd,by rw[←rel.length];exact z,fun h' dd' hs=>h _ ?_⟩
 have he:∃q,h'.get? a=some q:=by obtain⟨q,_,_,hq,_⟩:=dd';exact⟨q,hq⟩
 exact Pw (t':=s.toks) I (by rw[e];exact True.intro) hs he (Z21 (Nat.zero_le _) hd .nil dd')
theorem Y64{Q:Value→Shared→Prop}(I:Inv X pins σ H s)(e:Rd H a (.dK kvs))(h:∀t s',Inv X pins σ H s'→Q (.int kvs.length t) s'):wpAny (model X.prog X.w) A (call (.builtin "len") [.ref a]) Q E s:=by
 obtain⟨z,hd,vs,rel,dd⟩:=Ji I.hok e
 refine call_len_dict hd dd (by rw[←rel.length];rw[sizeLine_eq] at z;omega) ?_
 rw[←rel.length]
 exact h _ _ (I.tok _)
end
def NoSl(i:Expr):Prop:=∀ov iv,subscripted i false ov iv=operate [ov,iv] (getItem ov iv)
theorem Zs1{prog:Program}{w:World}{A:Around}{E:Value→Shared→Prop}{s:Shared}{env:Env}{value slice:Expr}{pos:Pos}{T id:String}{Q:Value→Shared→Prop}
  (hl:typeLookup (.type T) "__getitem__"=pure (some (.builtin id))) (hs:NoSl slice)
  (h:wpAny (model prog w) A (eval value env) (fun o s₁=>wpAny (model prog w) A (eval slice env) (fun i s₂=>s₂.TypeIs o T∧wpAny (model prog w) A (getItem o i) Q E s₂) E s₁) E s):
  wpAny (model prog w) A (eval (.Subscript value slice pos) env) Q E s:=by
 refine Subscript_ (wpAny_mono h (fun o s₁ h₁=>wpAny_mono h₁ (fun i s₂ h₂=>?_) fun _ _ x=>x) fun _ _ x=>x)
 obtain⟨hT,h₂⟩:=h₂
 unfold subscriptTail
 refine wpAny_bind ?_
 rw[getitemInPython_of_ne hT.not_modules]
 refine wpAny_bind (wpAny_specialOf hT hl ?_)
 have fin:wpAny (model prog w) A (subscripted slice false o i) (fun r s₃=>wpAny (model prog w) A (letTemporaryGo value o r >>=fun _=>pure r) Q E s₃) E s₂:=by
  rw[hs o i]
  exact wpAny_operating (wpAny_mono h₂ (fun r s₃ h₃=>wpAny_bind (wpAny_letTemporaryGo (wpAny_pure h₃))) fun _ _ x=>x)
 first
  | exact wpAny_pure (wpAny_bind fin)
  | exact wpAny_bind (wpAny_pure (wpAny_bind fin))
  | exact wpAny_bind fin
theorem Q0{X:Cx}{pins:List (Addr×Obj)}{σ:St}{H:Hp}{s:Shared}{a:Addr}{y:V}{o:Option V}(I:Inv X pins σ H s)(g:DGet H a y o):s.TypeIs (.ref a) "dict":=by
 rcases g with⟨kvs,k,e,_,_⟩ | ⟨kvs,k,b,e,_,_,_⟩
 ·obtain⟨_,_,vs,_,dd⟩:=Ji I.hok e
  exact dd.typeIs
 ·obtain⟨_,_,xs,_,dd⟩:=Cz I.hok e
  exact dd.typeIs
section
variable{X:Cx}{o i e value:Expr}{pos pos' tpos:Pos}{td ty tv:TE}
end
theorem Fz{P:Program}{w:World}{H:Hp}(h:Heap)(hb:sysModules<h.objs.size):X4 P w H (h.push {cls:= .type "dict",data:= .dict #[]}) h.objs.size (.dK []):=
 ⟨Nat.zero_le _,beq_eq_false_iff_ne.mpr (Ne.symm (Nat.ne_of_lt hb)),[],.nil,Heap.DictOf.new h⟩
def Y38:TE:=fun _ H Q=>∀p,H p=none→Q (.ref p) (upd H p (.dK []))
section
variable{X:Cx}{pos:Pos}
theorem Z98:PE X (.Dict [] [] pos) Y38:=fun pins s σ H Q I h=>
 wpAny_Dict_empty ⟨.ref s.heap.objs.size,_,I.laid (a:=s.heap.objs.size) (o:= .dK []) (t':=s.toks) (fun _ _ q=>Heap.get?_push_of_some _ q) (Nat.le_refl _) (Fz s.heap I.big),rfl,h _ (I.hok.fresh (Nat.le_refl _))⟩
end
def Z44:List (TE×TE)→St→Hp→(List (V×V)→Hp→Prop)→Prop
 | [],_,H,Q=>Q [] H
 |(tk,tv)::r,σ,H,Q=>tk σ H fun x H1=>tv σ H1 fun y H2=>Z44 r σ H2 fun ps H3=>Q ((x,y)::ps) H3
abbrev VV:List (V×V)→List (Value×Value)→Prop:=Paired fun p q=>RelV p.1 q.1∧RelV p.2 q.2
def PPs(X:Cx)(pos:Pos)(keys:List (Option Expr))(values:List Expr)(trs:List (TE×TE)):Prop:=
 ∀(pins:List (Addr×Obj)) (s:Shared) (σ:St) (H:Hp) (Q:List (V×V)→Hp→Prop),Inv X pins σ H s→Z44 trs σ H Q→
  wpAny (model X.prog X.w) X.A (evalPairs (pairTrees keys values X.env pos)) (fun vs s'=>∃ps H',Inv X pins σ H' s'∧VV ps vs∧Q ps H') X.xe s
theorem Z29{X:Cx}{pos:Pos}:PPs X pos [] [] []:=fun pins s σ H Q I h=>pairTrees_nil_walk ⟨[],H,I,.nil,h⟩
theorem O5{X:Cx}{pos:Pos}{k v:Expr}{ks:List (Option Expr)}{vs:List Expr}{tk tv:TE}{trs:List (TE×TE)}(hk:PE X k tk)(hv:PE X v tv)(hr:PPs X pos ks vs trs):
  PPs X pos (some k::ks) (v::vs) ((tk,tv)::trs):=fun pins s σ H Q I h=>
 pairTrees_cons_walk (thn (hk pins s σ H _ I h) fun u s1 ⟨x,H1,I1,rx,q1⟩=>thn (hv pins s1 σ H1 _ I1 q1) fun w2 s2 ⟨y,H2,I2,ry,q2⟩=>
  thn (hr pins s2 σ H2 _ I2 q2) fun ws s3 zz39=>by obtain⟨ps,H3,I3,rel,q3⟩:=zz39;exact⟨(x,y)::ps,H3,I3,.cons ⟨rx,ry⟩ rel,q3⟩)
noncomputable def Rs(kvs more:List (Key×V)):List (Key×V):=more.foldl (fun acc kv=>putK acc kv.1 kv.2) kvs
theorem KV.merge:∀{more:List (Key×V)} {rs:List (Key×Value)} {kvs:List (Key×V)} {vs:List (Key×Value)},KV more rs→KV kvs vs→KV (Rs kvs more) (merged vs rs):=by
 intro more rs kvs vs r
 unfold KV at r
 induction r generalizing kvs vs with
 | nil=>intro q;exact q
 | @cons p q ps qs h t ih=>
  intro r0
  have e:KV (putK kvs p.1 p.2) (stored vs q.1 q.2):=by
   have:=r0.put p.1 h.2
   rw[←h.1];exact this
  exact ih e
theorem Te:∀(more kvs:List (Key×V)),(Rs kvs more).length≤kvs.length+more.length
 | [],kvs=>by show kvs.length≤kvs.length+0;omega
 | p::r,kvs=>by
  have h1:=Te r (putK kvs p.1 p.2)
  have h2:=T7 kvs p.1 p.2
  show(Rs (putK kvs p.1 p.2) r).length≤_
  rw[List.length_cons];omega
theorem Pn{P:Program}{w:World}:∀{kvs:List (Key×V)} {ws:List (Value×Value)},VV (kvs.map fun kv=>(kV kv.1,kv.2)) ws→∃rs,Carries (Zz P w) ws rs∧KV kvs rs
 | [],_,r=>by rw[List.map_nil] at r;cases r;exact⟨[],True.intro,.nil⟩
 | p::kvs,_,r=>by
  rw[List.map_cons] at r
  cases r with
  | @cons a b as bs h t=>
   obtain⟨rs,c,q⟩:=Pn (P:=P) (w:=w) t
   obtain⟨b1,b2⟩:=b
   exact⟨(p.1,b2)::rs,⟨Oq h.1,rfl,c⟩,.cons ⟨rfl,h.2⟩ q⟩
def Y75(trs:List (TE×TE)):TE:=fun σ H Q=>∀p,H p=none→Z44 trs σ (upd H p (.dK [])) fun ps H2=>H2 p=some (.dK [])∧∃kvs:List (Key×V),ps=kvs.map (fun kv=>(kV kv.1,kv.2))∧kvs.length≤15∧Q (.ref p) (upd H2 p (.dK (Rs [] kvs)))
theorem Z70{X:Cx}{pos:Pos}{keys:List (Option Expr)}{values:List Expr}{trs:List (TE×TE)}(h:PPs X pos keys values trs)(hall:keys.all (·.isSome)=true)(hl:keys.length=values.length)(h0:keys≠[])
  (h15:keys.length≤15):PE X (.Dict keys values pos) (Y75 trs):=by
 intro pins s σ H Q I q
 have hn:=I.hok.fresh (Nat.le_refl s.heap.objs.size)
 have I1:=I.laid (a:=s.heap.objs.size) (o:= .dK []) (h':=s.heap.push {cls:= .type "dict",data:= .dict #[]}) (t':=s.toks) (fun _ _ q=>Heap.get?_push_of_some _ q) (Nat.le_refl _) (Fz s.heap I.big)
 refine wpAny_Dict_walk (knd:=Zz X.prog X.w) hall hl h0 h15 (thn (h pins _ σ _ _ I1 (q _ hn)) fun ws s2 zz40=>?_)
 obtain⟨ps,H2,I2,rel,e,kvs,ep,lk,q2⟩:=zz40
 subst ep
 obtain⟨rs,c,rk⟩:=Pn (P:=X.prog) (w:=X.w) rel
 obtain⟨z,hd,vs0,r0,dd⟩:=Z20 I2.hok e
 cases r0
 refine⟨rs,c,dd,fun h' dd' hs=>⟨.ref s.heap.objs.size,_,?_,rfl,q2⟩⟩
 have hz:(Rs [] kvs).length≤sizeLine:=by
  have h1:=Te kvs []
  rw[List.length_nil] at h1
  rw[sizeLine_eq];omega
 have he:∃q,h'.get? s.heap.objs.size=some q:=by obtain⟨q,_,_,hq,_⟩:=dd';exact⟨q,hq⟩
 exact Pw I2 (by rw[e];exact True.intro) hs he (Z21 hz hd (rk.merge .nil) dd')
structure M1(X:Cx)(o:Expr)(m:Str)(apos:Pos)(e:Expr)(cpos:Pos):Prop where
 base:attributeBase o m X.env (eval o X.env)=eval o X.env
 few:((backTo cpos (starEach [e] X.env)).all (fun x=> !x.1)&&(backToKw cpos (keywordEach [] X.env)).all (fun x=>x.1.isSome)
  &&decide (([e]:List Expr).length+([]:List Keyword).length+(if ([]:List Keyword).isEmpty then 0 else 1)<30))=true
 line:(apos.endLine==cpos.line)=true
 trees:backTo cpos (starEach [e] X.env)=[(false,eval e X.env)]
structure M2(X:Cx)(o:Expr)(m:Str)(apos:Pos)(e f:Expr)(cpos:Pos):Prop where
 base:attributeBase o m X.env (eval o X.env)=eval o X.env
 few:((backTo cpos (starEach [e,f] X.env)).all (fun x=> !x.1)&&(backToKw cpos (keywordEach [] X.env)).all (fun x=>x.1.isSome)
  &&decide (([e,f]:List Expr).length+([]:List Keyword).length+(if ([]:List Keyword).isEmpty then 0 else 1)<30))=true
 line:(apos.endLine==cpos.line)=true
 trees:backTo cpos (starEach [e,f] X.env)=[(false,eval e X.env),(false,eval f X.env)]
section
variable{X:Cx}{pins:List (Addr×Obj)}{σ:St}{H:Hp}{s:Shared}{a:Addr}{y d:V}{u r:Value}{o:Option V}{A:Around}{E:Value→Shared→Prop}
theorem Zx7{Q:Value→Shared→Prop}(hu:A.units+1<cLine)(I:Inv X pins σ H s)(g:DGet H a y o)(ry:RelV y u)(rd:RelV d r)(h:∀w' s',Inv X pins σ H s'→RelV (o.getD d) w'→Q w' s'):
  wpAny (model X.prog X.w) A (call (.builtin "dict.get") [.ref a,u,r]) Q E s:=by
 rcases g with⟨kvs,k,e,ey,l⟩ | ⟨kvs,k,b,e,ey,eb,l⟩
 ·subst ey
  obtain⟨z,hd,vs,rel,dd⟩:=Ji I.hok e
  refine call_meetsIn PySem.F.slot_dict_get dd.typeIs PySem.F.entry_dict_get (PySem.F.args_dict_get_3 _ _ _) (meets_dict_get_default (Zz X.prog X.w) a (Oq ry) hd r) ⟨_,dd.mapOf,h _ _ (I.tok _) ?_⟩
  rw[l]
  exact(rel.val k).getD rd
 ·subst ey
  cases (show u=Value.ref b from ry)
  obtain⟨z,hd,xs,rel,dd⟩:=Cz I.hok e
  refine call_meetsIn PySem.F.slot_dict_get dd.typeIs PySem.F.entry_dict_get (PySem.F.args_dict_get_3 _ _ _) (meetsH_dict_get_default (tupleKind (Zz X.prog X.w)) a b hd r) ⟨tupleKind_room_in1 hu,k,xs,Pj I.hok eb,dd,h _ _ (I.tok _) ?_⟩
  rw[l]
  exact(rel.val k).getD rd
end
section
variable{X:Cx}{o e f:Expr}{apos cpos:Pos}{td ty tx:TE}
end
section
variable{X:Cx}{pins:List (Addr×Obj)}{σ:St}{H:Hp}{s:Shared}{a:Addr}{kvs:List (Key×V)}{A:Around}{E:Value→Shared→Prop}
end
section
variable{X:Cx}{pins:List (Addr×Obj)}{σ:St}{H:Hp}{s:Shared}{a:Addr}{y:V}{u:Value}{A:Around}{E:Value→Shared→Prop}
end
end L2
namespace Att
open PySem PySem.W PySem.Calls PyProof.Rows
theorem Rn{P:Params}{h:Heap}:∀(ns:List Int) (vs:List Value),WellAll P h vs (ns.map WData.int)→IntsAre vs ns:=by
 intro ns
 induction ns with
 | nil=>
  intro vs w
  rw[List.map_nil] at w
  cases w
  exact .nil
 | cons n ns ih=>
  intro vs w
  rw[List.map_cons] at w
  cases w with
  | cons a b=>
   cases a
   exact .cons _ _ (ih _ b)
theorem script_of{l:OpenLaw}{n:Nat}(hn:l.most=some n){P:Params}{h:Heap}{args:List WData}{vals:List Value}
  (hpre:l.row.toRowW.claim.pre args=true) (hwl:WellAll P h vals args):
  ∃a vs ns,vals=[Value.ref a]∧args=[WData.list (ns.map WData.int)]∧h.get? a=some {cls:= .type "list",data:= .seq vs.toArray}∧IntsAre vs ns∧ns.length≤n:=by
 have hsh:WShape.hasAll [] args [.list .int]=true:=(pre_splitW hpre).1
 have hc:l.pre.holds [] {args:=args}=true:=(pre_splitW hpre).2
 obtain⟨d,r,rfl,h1,h2⟩:=hasAllW_cons hsh
 obtain rfl:=hasAllW_nil h2
 obtain⟨xs,rfl,h3⟩:=hasW_list h1
 obtain⟨ns,rfl⟩:=items_int h3
 have hlen:ns.length≤n:=by
  unfold OpenLaw.pre at hc
  have h4:(WTm.not (.lt (.lit (.int (n:Int))) (.len (.arg 0)))).holds [] {args:=[.list (ns.map .int)]}=true:=by
   have h4:=(holds_andW hc).1
   rw[hn] at h4
   exact h4
  have h5:=condW_of h4 (w_not (w_lt w_lit (w_len_list (w_arg rfl))))
  rw[List.length_map] at h5
  refine Nat.le_of_not_lt fun q=>?_
  have q':(n:Int)< ((ns.length:Nat):Int):=by omega
  first
   |(rw[decide_eq_true q'] at h5;exact absurd h5 (by decide))
   |(simp at h5;omega)
 cases hwl with
 | cons w1 w2=>
  cases w2
  cases w1 with
  | list ho hall=>exact⟨_,_,ns,rfl,rfl,ho,Rn ns _ hall,hlen⟩
theorem post_true(l:OpenLaw)(args:List WData):l.row.toRowW.claim.post args (.bool true) args=true:=
 postW_of (r:=l.row.toRowW) (X:=(true==true))
  (show WShape.has [] (.bool true) .bool=true by first | rfl | decide | simp[WShape.has,WShape.arms,WShape.armsAll])
  (show(WTm.eq .res (.lit (.bool true))).value [] {args:=args,res:=some (.bool true),after:=args}=some (.bool (true==true)) from w_eq_bool (w_res rfl) w_lit) rfl
section
variable{prog:Program}{w:World}{A:Around}{E:Value→Shared→Prop}{s:Shared}{K:Frag}
end
end Att
namespace L2
open PySem PySem.Spec PyProof.Rows
theorem Xt:∀{vs:List Value} {ns:List Int},IntsAre vs ns→Vals (ns.map V.int) vs
 | _,_,.nil=> .nil
 | _,_,.cons n t h=> .cons ⟨t,rfl⟩ (Xt h)
end L2
/- THE LAST THEOREM (shape;LID,My.* are yours):
  My.Adr:a structure of the addresses that your layer names (classes,functions);My.Txt K t:a structure (Prop) of the equations over K;
  My.txt_mk:{K} {implicit addresses ..} (e1:nsIn K mainGlobals "law"=some (some (.ref f))) (e2:K.lookup f=some ⟨oc,od,.func (fnOf "law" "law" params body scope dV kV doc pm an cdv ct),sl⟩) (e3:codeIn K cdv "law"=true) ..:∃t,My.Txt K t
set_option maxRecDepth 100000 in
set_option maxHeartbeats 0 in
theorem PySem.Challenge.cw_LID_holds : PySem.Challenge.rw_LID.Holds := by
 w_on;o_law;k_head;(case hw=>w_witness2)
 k_fill
 refine L2.walk_of (l:=PySem.Challenge.rw_LID) (n:=63) (k:=40) (x:="script") (CX:=fun w=> ..) (sp:=fun _=>My.sp_law) rfl (by decide) rfl ⟨rfl,by decide,by decide⟩ (fun w h Y=>PySem.W.kIn_of Y) ?F ?S ?C
 case F=>
  intro w mg fa h KX G hmg
  have T:∃t,My.Txt (L2.KOf KX) t:=by
   dsimp only[L2.KOf] -- K must stand as «<heap const>w.params» for k_is
   refine' My.txt_mk ?e1 ?e2 ?e3 ..
   (case e1=>PySem.W.k_is) -- in the order:a name ->its address ->its object ->its parts
   (case e2=>PySem.W.k_is)
   ..
  obtain⟨t,T⟩:=T
  have e0:=hmg.symm.trans (PySem.W.mg_of KX G T.law)
  cases e0 -- fa is the law's own address
  exact⟨_,fun s u=> .of_eq rfl,fun base kb nb=>My.law_fn T kb nb⟩ -- if «.of_eq rfl» comes too early:refine' ⟨_,?b,fun base kb nb=>My.law_fn T kb nb⟩;exact fun s u=> .of_eq rfl
 case S=>exact fun w H a ns hl hO hS=> ..
 case C=>exact ..
(the tactic k_is has no namespace:write k_is) -/
namespace L2
open PySem PySem.Spec PyProof.Rows
noncomputable def Zj(s:Stmt):Arguments:=match s with
 | .FunctionDef _ a _ _ _ _ _ _ _ _=>a
 | _=>{posonlyargs:=[],args:=[],vararg:=none,kwonlyargs:=[],kw_defaults:=[],kwarg:=none,defaults:=[]}
noncomputable def Z5(s:Stmt):List Stmt:=match s with
 | .FunctionDef _ _ b _ _ _ _ _ _ _=>b
 | _=>[]
noncomputable def Z3(s:Stmt):Scope:=match s with
 | .FunctionDef _ _ _ _ _ _ sc _ _ _=>sc
 | _=>{kind:= .function,names:=[],isGenerator:=false,isCoroutine:=false}
noncomputable abbrev CX0:CXT:=fun _ _ _ _ _ _=>False
abbrev E0:XK:=fun _ _ _=>False
structure Fun(K:PySem.W.Frag)(x qual:Str)(st:Stmt)(f:Addr)(fd:FuncData):Prop where
 ex:∃(oc:Value) (od:Option Addr) (dV kV doc pm:Value) (an:Option Addr) (cdv ct:Value) (osl:Array (Option Value)),
  fd=PySem.W.fnOf x qual (Zj st) (Z5 st) (Z3 st) dV kV doc pm an cdv ct∧K.lookup f=some ⟨oc,od,.func fd,osl⟩∧PySem.W.codeIn K cdv qual=true
 kp:PySem.W.keepIn K (.ref f)=true
section
variable{P:Program}{w:World}{K:PySem.W.Frag}{mg:Str→Option Value}{base:Heap}
theorem Fun.ok{x qual:Str}{st:Stmt}{f:Addr}{fd:FuncData}{N ps:List Str}{k:Nat}{sp:Sp}(F:Fun K x qual st f fd)(S:FnScope N ps (Z3 st))(len:∀vs H Q E,sp vs H Q E→vs.length=ps.length)
  (hbody:∀(cdv:Value) (A:Around) (outer:List Env) (s:Shared) (H:Hp) (vs:List V) (Q:VK) (E:XK),Room k (A.deeper (envOfC qual (Z3 st) s.heap.objs.size f cdv))→sp vs H Q E→
   ∃t,PSs (cxOf CX0 P w K mg base N qual (Z3 st) f cdv A outer s H E).nox (Z5 st) t∧t {nx:=fun _ H'=>Q .non H',rt:=Q} (start N vs) H):FnOk P w K mg base CX0 (k+1) f fd ps sp:=by
 obtain⟨oc,od,dV,kV,doc,pm,an,cdv,ct,osl,rfl,lk,hcd⟩:=F.ex
 refine Zz8 lk hcd S len fun A outer s H vs Q E hr hsp=>?_
 obtain⟨t,h,q⟩:=hbody cdv A outer s H vs Q E hr hsp
 exact⟨t,h.nox,q⟩
theorem Ya{x qual:Str}{st:Stmt}{f:Addr}{oc:Value}{od an:Option Addr}{osl:Array (Option Value)}{dV kV doc pm cdv ct:Value}(l:K.lookup f=some ⟨oc,od,.func (PySem.W.fnOf x qual (Zj st) (Z5 st) (Z3 st) dV kV doc pm an cdv ct),osl⟩)
  (c:PySem.W.codeIn K cdv qual=true) (k:PySem.W.keepIn K (.ref f)=true):Fun K x qual st f (PySem.W.fnOf x qual (Zj st) (Z5 st) (Z3 st) dV kV doc pm an cdv ct):=⟨⟨oc,od,dV,kV,doc,pm,an,cdv,ct,osl,rfl,l,c⟩,k⟩
end
section
variable{X:Cx}
end
def Same(H H':Hp):Prop:=∀b o,H b=some o→H' b=some o
theorem Same.refl(H:Hp):Same H H:=fun _ _ h=>h
theorem Same.trans{H H1 H2:Hp}(a:Same H H1)(b:Same H1 H2):Same H H2:=fun c o h=>b c o (a c o h)
section
variable{X:Cx}
theorem Z68:Ww X (.builtin "len") (fun xs H Q=>∃a kvs,xs=[V.ref a]∧H a=some (.dK kvs)∧Q (.int kvs.length) H):=by
 intro pins s σ H xs us Q I r h
 obtain⟨a,kvs,rfl,ha,q⟩:=h
 obtain⟨u,rfl,ru⟩:=Sv r
 cases ru
 exact Y64 I (.inl ha) fun t s' I'=>⟨.int kvs.length,H,I',⟨t,rfl⟩,q⟩
end
section
variable{κ:Type}[DecidableEq κ]
end
end L2
namespace L3
open PySem PySem.Spec PyProof.Rows L2
def Bits(n:Nat)(x:Int):Prop:=x.natAbs<2 ^ n
theorem Cr{m n:Nat}(h:m<2 ^ n)(hn:0<n):m.log2<n:=by
 rcases Nat.eq_zero_or_pos m with h0 | h0
 ·rw[h0];exact hn
 ·exact(Nat.log2_lt (Nat.ne_of_gt h0)).mpr h
theorem Qt{n:Nat}{x:Int}(h:Bits n x):Builtin.Int.intBits x≤n:=by
 unfold Builtin.Int.intBits
 split
 ·exact Nat.zero_le _
 ·rename_i h0
  have h1:x≠0:=by simpa using h0
  have h2:x.natAbs≠0:=by omega
  exact(Nat.log2_lt h2).mpr h
theorem Bits.mono{n m:Nat}{x:Int}(h:Bits n x)(k:n≤m):Bits m x:=Nat.lt_of_lt_of_le h (Nat.pow_le_pow_right (by decide) k)
theorem Bits.add{n:Nat}{x y:Int}(hx:Bits n x)(hy:Bits n y):Bits (n+1) (x+y):=by
 unfold Bits at *
 rw[Nat.pow_succ]
 omega
theorem Zi6{n m:Nat}{a b:Int}(ha:Bits n a)(hb:Bits m b)(h:n+m≤134217728):IntMulOk a b:=by
 unfold IntMulOk
 intro z
 have h1:=Qt ha
 have h2:=Qt hb
 rw[Bool.and_eq_true] at z
 have z2:=z.2
 unfold Builtin.Int.intTooBig at z2
 have z3:=of_decide_eq_true z2
 rw[bitsLine_eq] at z3
 omega
section
variable{X:Cx}
def Ev(_ j:Int):Prop:=j≠0∧j.natAbs.log2<9000
theorem Zg8:OpR X (binaryOp .FloorDiv) (rI Ev fun i j=> .int (i.fdiv j)):=opI fun _ _ _ _ _ _ _ hc q=>floordiv_int hc.1 q (.inl (PyProof.noPylong_of_log2 hc.2))
theorem Zo1:OpR X (binaryOp .Mult) (rI IntMulOk fun i j=> .int (i * j)):=opI fun _ _ _ _ _ _ _ hc q=>mul_int q hc
def rIsB(K:PySem.W.Frag):List V→Hp→VK→Prop:=fun xs H Q=>∃x n t b,xs=[x,.ty n]∧TyOf K H x t∧PySem.W.kitOne K t (.type n)=some b∧Q (.bl b) H
theorem Zg2:Ww X (.builtin "isinstance") (rIsB X.K):=by
 intro pins s σ H xs us Q I r h
 obtain⟨x,n,t,b,rfl,ty,e,q⟩:=h
 obtain⟨u,v,rfl,ru,rv⟩:=Gd r
 obtain rfl:v=Value.type n:=rv
 exact Z75 I ru ty e fun tk=>⟨.bl b,H,I.tok tk,rfl,q⟩
end
mutual
def Rep(K:PySem.W.Frag)(H:Hp):PyData→V→Prop
 | .none,v=>v= .non
 | .bool b,v=>v= .bl b
 | .int i,v=>v= .int i
 | .str x,v=>v= .str x
 | .list ds,v=>∃a xs,v= .ref a∧SqL K H a xs∧Wg K H ds xs
 | .tuple ds,v=>∃a xs,v= .ref a∧SqT K H a xs∧Wg K H ds xs
 | .dict _,_=>False
def Wg(K:PySem.W.Frag)(H:Hp):List PyData→List V→Prop
 | [],xs=>xs=[]
 | d::ds,xs=>∃v vs,xs=v::vs∧Rep K H d v∧Wg K H ds vs
end
section
variable{X:Cx}{pins:List (Addr×Obj)}{σ:L2.St}{H:Hp}{s:Shared}
mutual
theorem Rep.reads(I:Inv X pins σ H s):∀(d:PyData) (v:V) (u:Value),Rep X.K H d v→RelV v u→∃as,Reads s.heap u d as
 | .none,v,u,h,r=>by
  unfold Rep at h;subst h
  cases (show u=Value.none from r)
  exact⟨[],.none⟩
 | .bool b,v,u,h,r=>by
  unfold Rep at h;subst h
  cases (show u=Value.bool b from r)
  exact⟨[],.bool b⟩
 | .int i,v,u,h,r=>by
  unfold Rep at h;subst h
  obtain⟨t,rfl⟩:=(show ∃t,u=Value.int i t from r)
  exact⟨[],.int i t⟩
 | .str x,v,u,h,r=>by
  unfold Rep at h;subst h
  obtain⟨t,rfl⟩:=(show ∃t,u=Value.str x t from r)
  exact⟨[],.str x t⟩
 | .list ds,v,u,h,r=>by
  unfold Rep at h
  obtain⟨a,xs,rfl,hq,ha⟩:=h
  cases (show u=Value.ref a from r)
  obtain⟨its,rv,⟨o,n,h1,h2,_,h4⟩,_⟩:=I.list hq
  obtain⟨as,hr⟩:=Wg.reads I ds xs its ha rv
  exact⟨_,.list h1 h2 h4 hr⟩
 | .tuple ds,v,u,h,r=>by
  unfold Rep at h
  obtain⟨a,xs,rfl,hq,ha⟩:=h
  cases (show u=Value.ref a from r)
  obtain⟨its,rv,⟨o,h1,h2,n,h4⟩,_⟩:=I.tuple hq
  obtain⟨as,hr⟩:=Wg.reads I ds xs its ha rv
  exact⟨_,.tuple h1 h2 h4 hr⟩
 | .dict kvs,v,u,h,r=>by
  unfold Rep at h
  exact h.elim
theorem Wg.reads(I:Inv X pins σ H s):∀(ds:List PyData) (xs:List V) (us:List Value),Wg X.K H ds xs→Vals xs us→∃as,ReadsAll s.heap us ds as
 | [],xs,us,h,r=>by
  unfold Wg at h;subst h
  cases r
  exact⟨[],.nil⟩
 | d::ds,xs,us,h,r=>by
  unfold Wg at h
  obtain⟨v,vs,rfl,h1,h2⟩:=h
  cases r with
  | cons r1 r2=>
   obtain⟨as,q1⟩:=Rep.reads I d v _ h1 r1
   obtain⟨bs,q2⟩:=Wg.reads I ds vs _ h2 r2
   exact⟨_,.cons q1 q2⟩
end
end
section
variable{X:Cx}
def rEqD(K:PySem.W.Frag)(neg:Bool):R2:=fun x y H Q=>∃da db,Rep K H da x∧Rep K H db y∧da.canLay0=true∧db.canLay0=true∧min da.depth db.depth≤60∧Q (.bl (if neg then !PyData.eqv da db else PyData.eqv da db)) H
theorem Y47(hu:X.A.units+64<cLine):OpR X (compareOp .Eq) (rEqD X.K false):=by
 intro pins s σ H x y v u Q I rx ry h
 obtain⟨da,db,h1,h2,h3,h4,h5,q⟩:=h
 obtain⟨as,q1⟩:=Rep.reads I da x v h1 rx
 obtain⟨bs,q2⟩:=Rep.reads I db y u h2 ry
 exact PySem.SeqAt.compareEq_reads q1 q2 h3 h4 (by omega) ⟨.bl _,H,I,rfl,q⟩
end
end L3
namespace L3
open PySem PySem.W PySem.Calls PyProof.Rows L2
noncomputable def bigN:Nat:=1048576
theorem Qa:∀(ns:List Int) (i:Int),i∈ns→WData.weight (.int i)≤WData.weightAll (ns.map WData.int)
 | [],_,h=>nomatch h
 | n::r,i,h=>by
  rw[List.map_cons]
  have e:WData.weightAll (WData.int n::r.map WData.int)=WData.weight (.int n)+1+WData.weightAll (r.map WData.int):=by simp[WData.weightAll]
  rw[e]
  rcases List.mem_cons.mp h with q | q
  ·subst q;omega
  ·have:=Qa r i q;omega
theorem Ry{ns:List Int}(h:WData.layableAll [WData.list (ns.map WData.int)]=true):∀i∈ns,Bits bigN i:=by
 intro i hi
 have h1:WData.layable (WData.list (ns.map WData.int))=true:=by simpa[WData.layableAll] using h
 unfold WData.layable at h1
 rw[Bool.and_eq_true] at h1
 have h2:WData.weight (WData.list (ns.map WData.int))≤2 ^ 20:=of_decide_eq_true h1.2
 have h3:WData.weight (WData.list (ns.map WData.int))=WData.weightAll (ns.map WData.int):=by simp[WData.weight]
 have h4:=Qa ns i hi
 have h5:WData.weight (.int i)=if i==0 then 0 else i.natAbs.log2+1:=by simp[WData.weight]
 unfold Bits bigN
 by_cases h0:i=0
 ·subst h0;exact Nat.two_pow_pos _
 ·have hb:(i==0)=false:=by simpa using h0
  rw[hb] at h5
  have h6:i.natAbs.log2<1048576:=by
   have:(2:Nat) ^ 20=1048576:=by decide
   simp only[Bool.false_eq_true,if_false] at h5
   omega
  exact(Nat.log2_lt (by omega)).mp h6
theorem N3{l:OpenLaw}{n:Nat}{q:Program}{loose:List Str}{XP:(Str→Option Value)→Heap→Prop}{YP:World→Heap→Prop}{d:DefRec}(hn:l.most=some n)(hdf:d.params.defaults=[])
  (call:∀(w:World) (s₀ s₁:Shared) (mg mb:Str→Option Value) (fa:Addr) (o:Obj) (pm cd doc:Value) (a:Addr) (vs:List Value) (ns:List Int),
   Ground q loose [] XP w s₀ mg mb s₁.heap→YP w s₁.heap→mg d.name=some (.ref fa)→
   s₁.heap.get? a=some {cls:= .type "list",data:= .seq vs.toArray}→IntsAre vs ns→ns.length≤n→(∀i∈ns,Bits bigN i)→s₁.gens=#[]→
   codeAny (model l.prog w) callerA (.call (.ref fa) ⟨[.ref a],[]⟩) (fun r s'=>r= .ok (.ret (.bool true))∧OldK s₁.heap s'.heap∧s'.os=s₁.os∧AllBare s'.gens) s₁):
  WalkO q loose XP YP l.row.toRowW d [] (fun f vs=>PySem.call f vs):=by
 intro w s₀ s₁ mg mb G Y fa o pm cd doc dV kV ho hd hcd hD hmg hg args vals as hpre hlay hrd hwl hlo
 obtain⟨a,vs,ns,rfl,rfl,hobj,hints,hlen⟩:=Att.script_of hn hpre hwl
 refine enter_call (codeAny_mono (call w s₀ s₁ mg mb fa o pm cd doc a vs ns G Y hmg hobj hints hlen (Ry hlay) hg) fun r s' hq=>?_)
 obtain⟨rfl,h2,h3,h4⟩:=hq
 exact⟨.inl ⟨.bool true,.bool true,[],rfl,fun _=>rfl,.bool true,Att.post_true l _,fun _=>⟨List.Pairwise.nil,fun _ hm=>(nomatch hm)⟩⟩,h2,h3,h4⟩
end L3
namespace L3
open PySem
section
variable{P:Program}{w:World}{A:Around}{R:Result→Shared→Prop}{s:Shared}{elt tg iter c:Expr}{scope:Scope}{pos:Pos}{it acc:Value}{env:Env}
abbrev noE:Value→Shared→Prop:=fun _ _=>False
theorem Ce(I:Nat→Shared→Prop)
  (turn:∀n s,I n s→wpAny (model P w) A (pyNext it) (fun r s1=>match r with
   | none=>R (.ok .next) s1
   | some v=>wpAny (model P w) A (letOwnedTupleGo tg it v) (fun _ s2=>wpAny (model P w) A (assign tg env v) (fun _ s3=>wpAny (model P w) A (eval elt env) (fun x s4=>
     wpAny (model P w) A (call (.builtin "list.append") [acc,x]) (fun _ s5=>∃m,m<n∧I m s5) noE s4) noE s3) noE s2) noE s1) noE s)
  (n:Nat) (h:I n s):codeAny (model P w) A (.compLoop (.ListComp elt [⟨tg,iter,[],0⟩] scope pos) 0 it acc env) R s:=by
 refine codeAny_loop rfl I (fun m z hI=>?_) n h
 show wpAny _ A ((compTurn (.ListComp elt [⟨tg,iter,[],0⟩] scope pos) 0 it acc env).onRaise fun x=>do noteFrame x env;theTreesLotGoes x) _ _ z
 refine wpAny_noted ?_
 rw[compTurn_list1]
 refine wpAny_bind (wpAny_standAt (wpAny_bind (wpAny_mono (turn m z hI) (fun r s1 h1=>?_) fun _ _ f=>f.elim)))
 cases r with
 | none=>exact wpAny_pure h1
 | some v=>
  refine wpAny_bind (wpAny_mono h1 (fun _ s2 h2=>?_) fun _ _ f=>f.elim)
  refine wpAny_bind (wpAny_mono h2 (fun _ s3 h3=>?_) fun _ _ f=>f.elim)
  refine wpAny_bind (wpAny_bind (wpAny_mono h3 (fun x s4 h4=>?_) fun _ _ f=>f.elim))
  exact wpAny_bind (wpAny_mono h4 (fun _ s5 h5=>wpAny_pure (wpAny_pure ⟨rfl,h5⟩)) fun _ _ f=>f.elim)
theorem Ct(I:Nat→Shared→Prop)
  (turn:∀n s,I n s→wpAny (model P w) A (pyNext it) (fun r s1=>match r with
   | none=>R (.ok .next) s1
   | some v=>wpAny (model P w) A (letOwnedTupleGo tg it v) (fun _ s2=>wpAny (model P w) A (assign tg env v) (fun _ s3=>wpAny (model P w) A (isTrue c env (eval c env)) (fun ok s4=>
     if ok=true then wpAny (model P w) A (eval elt env) (fun x s5=>wpAny (model P w) A (call (.builtin "list.append") [acc,x]) (fun _ s6=>∃m,m<n∧I m s6) noE s5) noE s4
     else ∃m,m<n∧I m s4) noE s3) noE s2) noE s1) noE s)
  (n:Nat) (h:I n s):codeAny (model P w) A (.compLoop (.ListComp elt [⟨tg,iter,[c],0⟩] scope pos) 0 it acc env) R s:=by
 refine codeAny_loop rfl I (fun m z hI=>?_) n h
 show wpAny _ A ((compTurn (.ListComp elt [⟨tg,iter,[c],0⟩] scope pos) 0 it acc env).onRaise fun x=>do noteFrame x env;theTreesLotGoes x) _ _ z
 refine wpAny_noted ?_
 rw[compTurn_list]
 refine wpAny_bind (wpAny_standAt (wpAny_bind (wpAny_mono (turn m z hI) (fun r s1 h1=>?_) fun _ _ f=>f.elim)))
 cases r with
 | none=>exact wpAny_pure h1
 | some v=>
  refine wpAny_bind (wpAny_mono h1 (fun _ s2 h2=>?_) fun _ _ f=>f.elim)
  refine wpAny_bind (wpAny_mono h2 (fun _ s3 h3=>?_) fun _ _ f=>f.elim)
  refine wpAny_bind (wpAny_tests_one (wpAny_mono h3 (fun ok s4 h4=>?_) fun _ _ f=>f.elim))
  cases ok with
  | false=>exact wpAny_pure ⟨rfl,h4⟩
  | true=>
   refine wpAny_bind (wpAny_bind (wpAny_mono h4 (fun x s5 h5=>?_) fun _ _ f=>f.elim))
   exact wpAny_bind (wpAny_mono h5 (fun _ s6 h6=>wpAny_pure (wpAny_pure ⟨rfl,h6⟩)) fun _ _ f=>f.elim)
end
theorem S5{env:Env}:∀(names:List (Str×NameKind)) (acc:List (Str×Addr)),(∀n,(n,NameKind.free)∈names→∃c,env.cells.lookup n=some c)→
  (∀x c,acc.lookup x=some c→env.cells.lookup x=some c)→
  ∃cl,(forIn names acc fun(x:Str×NameKind) (cs:List (Str×Addr))=>match x with
   |(name,kind)=>if (kind==NameKind.free)=true then do let c ←cellOf env name;pure (ForInStep.yield ((name,c)::cs)) else pure (ForInStep.yield cs):Sem (List (Str×Addr)))=pure cl∧
   (∀x c,cl.lookup x=some c→env.cells.lookup x=some c)∧(∀n,(n,NameKind.free)∈names→∃c,cl.lookup n=some c)∧∀x c,acc.lookup x=some c→∃c',cl.lookup x=some c'
 | [],acc,_,ha=>⟨acc,rfl,ha,(fun _ h=>nomatch h),fun x c e=>⟨c,e⟩⟩
 |(n,k)::r,acc,hn,ha=>by
  by_cases hk:k= .free
  ·subst hk
   obtain⟨c,hc⟩:=hn n List.mem_cons_self
   obtain⟨cl,e,h1,h2,h3⟩:=S5 r ((n,c)::acc) (fun m hm=>hn m (List.mem_cons_of_mem _ hm)) (fun x d hx=>by
    rw[List.lookup_cons] at hx
    cases q:x==n with
    | true=>rw[q] at hx;cases hx;rw[eq_of_beq q];exact hc
    | false=>rw[q] at hx;exact ha x d hx)
   refine⟨cl,?_,h1,fun m hm=>?_,fun x d hx=>?_⟩
   ·rw[List.forIn_cons]
    show(bind (bind (cellOf env n) _) _:Sem _)=_
    unfold cellOf
    rw[hc]
    exact e
   ·rcases List.mem_cons.mp hm with q | q
    ·cases q;exact h3 n c (by simp[List.lookup_cons])
    ·exact h2 m q
   ·cases q:x==n with
    | true=>exact h3 x c (by rw[List.lookup_cons,q])
    | false=>exact h3 x d (by rw[List.lookup_cons,q];exact hx)
  ·have hb:(k==NameKind.free)=false:=by simpa using hk
   obtain⟨cl,e,h1,h2,h3⟩:=S5 r acc (fun m hm=>hn m (List.mem_cons_of_mem _ hm)) ha
   refine⟨cl,?_,h1,fun m hm=>?_,h3⟩
   ·rw[List.forIn_cons]
    show(bind (if (k==NameKind.free)=true then _ else _) _:Sem _)=_
    rw[hb]
    exact e
   ·rcases List.mem_cons.mp hm with q | q
    ·cases q;exact absurd rfl hk
    ·exact h2 m q
theorem Vl{env:Env}{scope:Scope}(hn:∀n,(n,NameKind.free)∈scope.names→∃c,env.cells.lookup n=some c):
  ∃cl,closureFor scope env=pure cl∧(∀x c,cl.lookup x=some c→env.cells.lookup x=some c)∧∀n,(n,NameKind.free)∈scope.names→∃c,cl.lookup n=some c:=by
 obtain⟨cl,e,h1,h2,_⟩:=S5 scope.names [] hn (fun x c h=>by cases h)
 refine⟨cl,?_,h1,h2⟩
 exact(congrArg (fun t:Sem (List (Str×Addr))=>bind t fun z=>pure z) e).trans rfl
end L3
namespace L3
open PySem PySem.Spec PyProof.Rows L2
noncomputable def cxC(X:Cx)(N':List Str)(scope:Scope)(cl:List (Str×Addr))(C:Addr)(fp:List Addr)(pins:List (Addr×Obj))(s:Shared)(H:Hp):Cx where
 prog:=X.prog
 w:=X.w
 K:=X.K
 mg:=X.mg
 base:=X.base
 A:=X.A
 N:=N'
 s₀:=s
 H₀:=H
 env:=compEnvC scope cl C X.env
 outer:=X.stack
 stack:=X.stack
 ex:=fp
 fn:=fun x=>scope.names.any fun y=>y.1==x&&y.2== .cell
 calm:=X.calm
 pn:=X.pn++pins
 xe:=noE
noncomputable def Wu(scope dsc:Scope):Scope:=
 {scope with names:=scope.names.map fun(n,k)=>if (k== .free&&dsc.kind== .function&&dsc.names.lookup n==some .cell) then(n,.cell) else(n,k)}
noncomputable def Tv(js:List (Option Nat))(σ:L2.St):L2.St:=js.map fun o=>o.bind fun j=>(σ[j]?).join
structure CompScope(dsc:Scope)(dN N':List Str)(js:List (Option Nat))(scope:Scope):Prop where
 kind:scope.kind= .function
 nd:(scope.names.map (·.1)).Nodup
 loc:∀y∈scope.names,y.2= .local→scope.names.lookup y.1=some .local
 len:js.length=N'.length
 cap:∀(i:Nat) (x:Str) (j:Nat),N'[i]?=some x→js[i]?=some (some j)→dN[j]?=some x∧(x,NameKind.free)∈scope.names
 free:∀n,(n,NameKind.free)∈scope.names→dsc.names.lookup n=some .cell∨dsc.names.lookup n=some .free
 seen:∀n,(n,NameKind.free)∈scope.names→(Wu scope dsc).names.lookup n=some .cell∨(Wu scope dsc).names.lookup n=some .free
noncomputable def Ti(dsc:Scope)(dN N':List Str)(js:List (Option Nat))(scope:Scope):Bool:=
 scope.kind== .function&&decide ((scope.names.map (·.1)).Nodup)&&scope.names.all (fun y=>y.2 != .local || scope.names.lookup y.1==some .local)&&js.length==N'.length&&
 (N'.zip js).all (fun p=>match p.2 with | some j=>dN[j]?==some p.1&&scope.names.contains (p.1,NameKind.free) | none=>true)&&
 scope.names.all (fun y=>y.2 != .free || ((dsc.names.lookup y.1==some .cell || dsc.names.lookup y.1==some .free)&&((Wu scope dsc).names.lookup y.1==some .cell || (Wu scope dsc).names.lookup y.1==some .free)))
theorem CompScope.of{dsc:Scope}{dN N':List Str}{js:List (Option Nat)}{scope:Scope}(h:Ti dsc dN N' js scope=true):CompScope dsc dN N' js scope:=by
 unfold Ti at h
 simp only[Bool.and_eq_true,List.all_eq_true,beq_iff_eq,bne_iff_ne,Bool.or_eq_true,decide_eq_true_eq] at h
 obtain⟨⟨⟨⟨⟨h1,h2⟩,h3⟩,h4⟩,h5⟩,h6⟩:=h
 refine⟨h1,h2,fun y hy hl=>(h3 y hy).resolve_left fun z=>z hl,h4,fun i x j e1 e2=>?_,fun n hn=>?_,fun n hn=>?_⟩
 ·have hm:(x,some j)∈N'.zip js:=List.mem_of_getElem? (i:=i) (by rw[List.getElem?_zip_eq_some];exact⟨e1,e2⟩)
  have q:=h5 _ hm
  simp only[Bool.and_eq_true,beq_iff_eq,List.contains_iff_mem] at q
  exact q
 ·exact((h6 _ hn).resolve_left fun z=>z rfl).1
 ·exact((h6 _ hn).resolve_left fun z=>z rfl).2
theorem Vy{env:Env}{x:Str}{k:NameKind}:∀{names:List (Str×NameKind)},
  (names.map fun(n,k)=>if (k==NameKind.free&&env.scope.kind== .function&&env.kindOf n==some .cell) then(n,NameKind.cell) else(n,k)).lookup x=some k→(k= .cell∨k= .free)→(x,NameKind.free)∈names∨(x,NameKind.cell)∈names
 | [],h,_=>by simp at h
 |(n,q)::r,h,hk=>by
  rw[List.map_cons] at h
  by_cases hx:x=n
  ·subst hx
   have hq:q= .free∨q= .cell:=by
    by_cases c:(q==NameKind.free&&env.scope.kind== .function&&env.kindOf x==some .cell)=true
    ·rw[Bool.and_eq_true,Bool.and_eq_true] at c
     exact .inl (eq_of_beq c.1.1)
    ·simp only[if_neg c] at h
     rw[List.lookup_cons,beq_self_eq_true] at h
     have e:q=k:=Option.some.inj h
     rcases hk with z | z
     ·exact .inr (e.trans z)
     ·exact .inl (e.trans z)
   rcases hq with rfl | rfl
   ·exact .inl List.mem_cons_self
   ·exact .inr List.mem_cons_self
  ·have hb:(x==n)=false:=by simpa using hx
   have rest:(r.map fun(n,k)=>if (k==NameKind.free&&env.scope.kind== .function&&env.kindOf n==some .cell) then(n,NameKind.cell) else(n,k)).lookup x=some k:=by
    by_cases c:(q==NameKind.free&&env.scope.kind== .function&&env.kindOf n==some .cell)=true
    ·simp only[if_pos c] at h
     rw[List.lookup_cons,hb] at h
     exact h
    ·simp only[if_neg c] at h
     rw[List.lookup_cons,hb] at h
     exact h
   exact(Vy (env:=env) rest hk).imp (List.mem_cons_of_mem _) (List.mem_cons_of_mem _)
structure BlockCells(X:Cx)(scope:Scope)(cl:List (Str×Addr))(sz:Nat)(h1:Heap):Prop where
 each:∀x c,cl.lookup x=some c→X.env.cells.lookup x=some c∨(sz<c∧h1.IsCell c none)
 free:∀n,(n,NameKind.free)∈scope.names→∃c,cl.lookup n=some c∧X.env.cells.lookup n=some c
 own:∀n,(n,NameKind.cell)∈scope.names→∃c,cl.lookup n=some c∧sz<c
 inj:∀x y c,cl.lookup x=some c→cl.lookup y=some c→sz<c→x=y
theorem T8{x:Str}:∀(names:List (Str×NameKind)) (n:Nat) (acc:List (Str×Addr)),(x,NameKind.cell)∉names→(cellsFrom n names acc).lookup x=acc.lookup x
 | [],_,_,_=>rfl
 |(y,k)::r,n,acc,h=>by
  have hr:(x,NameKind.cell)∉r:=fun z=>h (List.mem_cons_of_mem _ z)
  unfold cellsFrom
  split
  ·rename_i hk
   have hxy:(x==y)=false:=by
    rw[beq_eq_false_iff_ne]
    intro e
    apply h
    rw[e,←eq_of_beq hk]
    exact List.mem_cons_self
   rw[T8 r _ _ hr,List.lookup_cons,hxy]
  ·exact T8 r n acc hr
theorem Ql{x:Str}:∀(names:List (Str×NameKind)) (n:Nat) (acc:List (Str×Addr)),(x,NameKind.cell)∈names→∃c,(cellsFrom n names acc).lookup x=some c∧n≤c
 | [],_,_,h=>by cases h
 |(y,k)::r,n,acc,h=>by
  unfold cellsFrom
  by_cases hr:(x,NameKind.cell)∈r
  ·split
   ·obtain⟨c,e,l⟩:=Ql r (n+1) ((y,n)::acc) hr
    exact⟨c,e,by omega⟩
   ·exact Ql r n acc hr
  ·rcases List.mem_cons.mp h with e | e
   ·cases e
    rw[if_pos (by rfl),T8 r _ _ hr,List.lookup_cons,beq_self_eq_true]
    exact⟨n,rfl,Nat.le_refl _⟩
   ·exact absurd e hr
theorem T6:∀(names:List (Str×NameKind)) (n:Nat) (acc cl:List (Str×Addr)),∃own,cellsFrom n names (acc++cl)=own++cl∧cellsFrom n names acc=own
 | [],n,acc,cl=>⟨acc,rfl,rfl⟩
 |(y,k)::r,n,acc,cl=>by
  unfold cellsFrom
  split
  ·exact T6 r (n+1) ((y,n)::acc) cl
  ·exact T6 r n acc cl
theorem Vh{x:Str}{c:Addr}:∀{a b:List (Str×Addr)},(a++b).lookup x=some c→a.lookup x=some c∨b.lookup x=some c
 | [],b,h=> .inr h
 |(y,d)::a,b,h=>by
  rw[List.cons_append,List.lookup_cons] at h
  rw[List.lookup_cons]
  cases e:x==y with
  | true=>rw[e] at h;exact .inl h
  | false=>rw[e] at h;exact Vh h
theorem Qx{X:Cx}{pins:List (Addr×Obj)}{σ:L2.St}{H:Hp}{s:Shared}{scope:Scope}{cl:List (Str×Addr)}(nd:(scope.names.map (·.1)).Nodup)(I:Inv X pins σ H s)(o:Obj)
  (c1:∀x c,cl.lookup x=some c→X.env.cells.lookup x=some c) (c2:∀n,(n,NameKind.free)∈scope.names→∃c,cl.lookup n=some c):
  BlockCells X scope (cellsFrom (s.heap.objs.size+1) scope.names cl) s.heap.objs.size (pushCells (s.heap.push o) scope.names):=by
 obtain⟨own,e1,e2⟩:=T6 scope.names (s.heap.objs.size+1) [] cl
 rw[List.nil_append] at e1
 have ok:=cellsFrom_ok scope.names (s.heap.push o) (s.heap.objs.size+1) [] ⟨fun _ _ hm=>(nomatch hm),List.Pairwise.nil⟩ (by rw[Heap.size_push];exact Nat.le_refl _)
 rw[Heap.size_push,e2] at ok
 have old:∀x c,cl.lookup x=some c→c<s.heap.objs.size:=by
  intro x c e
  obtain⟨v,q⟩:=I.cell x c (c1 x c e)
  exact q.lt
 have one:∀{n:Str},(n,NameKind.free)∈scope.names→(n,NameKind.cell)∉scope.names:=by
  intro n h1 h2
  have key:∀(l:List (Str×NameKind)),(l.map (·.1)).Nodup→(n,NameKind.free)∈l→(n,NameKind.cell)∈l→False:=by
   intro l
   induction l with
   | nil=>intro _ h;cases h
   | cons y r ih=>
    intro hn a b
    rw[List.map_cons,List.nodup_cons] at hn
    rcases List.mem_cons.mp a with e1 | a2
    ·rcases List.mem_cons.mp b with e2 | b2
     ·rw[←e1] at e2;cases e2
     ·exact hn.1 (List.mem_map.mpr ⟨_,b2,by rw[←e1]⟩)
    ·rcases List.mem_cons.mp b with e2 | b2
     ·exact hn.1 (List.mem_map.mpr ⟨_,a2,by rw[←e2]⟩)
     ·exact ih hn.2 a2 b2
  exact key _ nd h1 h2
 refine⟨fun x c e=>?_,fun n hn=>?_,fun n hn=>?_,fun x y c hx hy hc=>?_⟩
 ·rw[e1] at e
  rcases Vh e with z | z
  ·obtain⟨a,b⟩:=ok.empty x c (mem_of_lookup z)
   exact .inr ⟨b,a⟩
  ·exact .inl (c1 x c z)
 ·obtain⟨c,hc⟩:=c2 n hn
  refine⟨c,?_,c1 n c hc⟩
  rw[T8 _ _ _ (one hn)]
  exact hc
 ·obtain⟨c,a,b⟩:=Ql scope.names (s.heap.objs.size+1) cl hn
  exact⟨c,a,b⟩
 ·rw[e1] at hx hy
  rcases Vh hx with z | z
  ·rcases Vh hy with z2 | z2
   ·exact name_of_addr ok.apart (mem_of_lookup z) (mem_of_lookup z2)
   ·exact absurd (old y c z2) (Nat.lt_asymm hc)
  ·exact absurd (old x c z) (Nat.lt_asymm hc)
theorem Pk{M:Model}{A:Around}{E:Value→Shared→Prop}{s:Shared}{scope:Scope}{globals:Addr}{cl:List (Str×Addr)}{qual:Str}{o:Env}{Q:Env→Shared→Prop}
  (hQ:Q {scope:=scope,locals:=s.heap.objs.size,globals:=globals,cells:=cellsFrom (s.heap.objs.size+1) scope.names cl,qual:=qual,func:=none,code:=o.code,frame:=o.frame,builtins:=o.builtins} {s with heap:=pushCells (s.heap.push {cls:= .type "dict",data:= .dict #[]}) scope.names}):
  wpAny M A (newFunctionEnv scope globals cl [] qual none .none (some o)) Q E s:=by
 simp only[newFunctionEnv,Option.isSome_some,if_true]
 refine wpAny_bind (wpAny_alloc ?_)
 refine wpAny_bind (wpAny_layCells _ (fun name kind cells=>by cases hkc:kind==NameKind.cell<;>simp[hkc]) _ _ _ _ ?_)
 rw[show({s with heap:=s.heap.push {cls:= .type "dict",data:= .dict #[]}}:Shared).heap.objs.size=s.heap.objs.size+1 from Heap.size_push ..]
 rw[List.forIn_nil]
 exact wpAny_bind (wpAny_pure (wpAny_pure hQ))
section
variable{X:Cx}{elt tg iter c:Expr}{scope:Scope}{pos:Pos}{N':List Str}{js:List (Option Nat)}{wi:TI}{g:TG}{te:TE}{tc:TT}
theorem Pe{N':List Str}{js:List (Option Nat)}{pins:List (Addr×Obj)}{σ:L2.St}{H:Hp}{s:Shared}{cl:List (Str×Addr)}{fp:List Addr}{h1:Heap}{tk:Nat}(S:CompScope X.env.scope X.N N' js scope)(I:Inv X pins σ H s)
  (bc:BlockCells X scope cl s.heap.objs.size h1) (hf:∀b∈fp,FpOk X pins H b) (hlt:∀b∈fp,b<s.heap.objs.size)
  {m:Str→Option Value} (hn:h1.Ns s.heap.objs.size m) (hk:∀b o,s.heap.get? b=some o→h1.get? b=some o):
  Inv (cxC X N' scope cl s.heap.objs.size fp pins s H) [] (Tv js σ) H {s with heap:=h1,toks:=tk}:=by
 have ok:(cxC X N' scope cl s.heap.objs.size fp pins s H).Ok:=by
  refine⟨I.ok.mod,S.kind,I.ok.glob,I.ok.blt,Nat.le_refl _,fun x y c h1 h2=>?_,fun x hx=>?_,fun x c hx e=>?_,I.ok.hd,I.ok.frames,.inl rfl,fun b hb=>⟨Nat.ne_of_lt (hlt b hb),fun x c e=>?_⟩,
   I.bs,Nat.le_trans I.ok.bsz I.sz,fun b o e hb=>?_,fun b hb hx=>?_,I.stack,I.stkFree⟩
  ·rcases bc.each x c h1 with z | z
   ·rcases bc.each y c h2 with z2 | z2
    ·exact I.ok.inj x y c z z2
    ·exact bc.inj x y c h1 h2 z2.1
   ·exact bc.inj x y c h1 h2 z.1
  ·have hx':(relabel scope X.env).names.lookup x=some .cell∨(relabel scope X.env).names.lookup x=some .free:=hx
   have hm:(x,NameKind.free)∈scope.names∨(x,NameKind.cell)∈scope.names:=by
    rcases hx' with z | z
    ·exact Vy z (.inl rfl)
    ·exact Vy z (.inr rfl)
   rcases hm with z | z
   ·obtain⟨c,e,_⟩:=bc.free x z;exact⟨c,e⟩
   ·obtain⟨c,e,_⟩:=bc.own x z;exact⟨c,e⟩
  ·have hx':(scope.names.any fun y=>y.1==x&&y.2==NameKind.cell)=true:=hx
   rw[List.any_eq_true] at hx'
   obtain⟨⟨y,k⟩,hm,hy⟩:=hx'
   rw[Bool.and_eq_true] at hy
   have e1:y=x:=eq_of_beq hy.1
   have e2:k= .cell:=eq_of_beq hy.2
   subst e1 e2
   obtain⟨c',e',l⟩:=bc.own _ hm
   have:c'=c:=Option.some.inj (e'.symm.trans e)
   subst this
   exact Nat.le_of_lt l
  ·rcases bc.each x c e with z | z
   ·exact(hf b hb).2.2.2.2.1 x c z
   ·exact fun q=>absurd z.1 (Nat.lt_asymm (by rw[q];exact hlt b hb))
  ·obtain⟨_,_,_,f3,_⟩:=hf b hb
   rcases f3 with z | z
   ·exact I.ok.noex b o e z
   ·exact absurd (Nat.lt_of_lt_of_le (Heap.lt_size e) (Nat.le_trans I.ok.bsz z)) (Nat.lt_irrefl _)
  ·obtain⟨_,f1,f2,_⟩:=hf b hb
   rcases List.mem_cons.mp (I.stkSub b hx) with z | z
   ·exact f1 z
   ·exact f2 z
 refine⟨ok,rfl,I.bare,Un.kept hk,⟨m,hn,fun i x v e1 e2 e3=>?_⟩,fun x c e=>?_,I.hok.fresh (Nat.le_refl _),fun x c e=>(bc.each x c e).elim (fun z=>I.freeC x c z) (fun z=>I.hok.fresh (Nat.le_of_lt z.1)),fun p hp=>?_,I.hok.kept hk,?_⟩
 ·have e2':(Tv js σ)[i]?=some (some v):=e2
  unfold Tv at e2'
  rw[List.getElem?_map] at e2'
  cases q:js[i]? with
  | none=>rw[q] at e2';cases e2'
  | some o=>
   rw[q] at e2'
   cases o with
   | none=>cases e2'
   | some j=>
    have e4:(σ[j]?).join=some v:=Option.some.inj e2'
    obtain⟨hN,hm⟩:=S.cap i x j e1 q
    have hσ:σ[j]?=some (some v):=by
     cases z:σ[j]? with
     | none=>rw[z] at e4;cases e4
     | some o=>rw[z] at e4;exact congrArg some e4
    obtain⟨m0,hn0,hl⟩:=I.loc
    obtain⟨c,hc,hc0⟩:=bc.free x hm
    have hv:Vis X.env.scope x:=(S.free x hm).elim (fun z=> .inr (.inl z)) fun z=> .inr (.inr z)
    obtain⟨u,r,l⟩:=hl j x v hN hσ hv
    refine⟨u,r,.inr ⟨?_,c,hc,?_⟩⟩
    ·exact S.seen x hm
    ·rcases l with⟨kl,_⟩ | ⟨_,c',hc',cell⟩
     ·rcases S.free x hm with y | y<;>(have z:=y.symm.trans (show X.env.scope.names.lookup x=some .local from kl);cases z)
     ·rw[hc0] at hc'
      cases hc'
      obtain⟨o,ho,hd⟩:=cell
      exact⟨o,hk _ _ ho,hd⟩
 ·rcases bc.each x c e with z | z
  ·obtain⟨v,o,ho,hd⟩:=I.cell x c z
   exact⟨v,o,hk _ _ ho,hd⟩
  ·exact⟨none,z.2⟩
 ·have hp':p∈X.pn++pins:=(List.mem_append.mp hp).elim (fun z=>z) fun z=>absurd z (by simp)
  obtain⟨e,n,ne,nf,d⟩:=I.pin p hp'
  refine⟨hk _ _ e,n,Nat.ne_of_lt (Heap.lt_size e),fun z=>?_,d⟩
  rcases List.mem_cons.mp (I.stkSub p.1 z) with y | y
  ·exact ne y
  ·exact nf y
 ·show(Tv js σ).length=N'.length
  unfold Tv
  rw[List.length_map];exact S.len
end
section
variable{X:Cx}{elt tg iter c:Expr}{scope:Scope}{pos:Pos}{N':List Str}{js:List (Option Nat)}{wi:TI}{g:TG}{te:TE}{tc:TT}
def Z26(js:List (Option Nat))(wi:TI)(g:TG)(te:TE):TE:=fun σ H Q=>wi σ H fun J H1=>∀D,H1 D=none→∃W:Nat→Nat→L2.St→Hp→Prop,(∃m,W 0 m (Tv js σ) (upd H1 D (.lst [])))∧
 ∀i m σc Hc,W i m σc Hc→(J.stop i Hc∧Q (.ref D) Hc)∨(J.go i Hc∧∀x H',J.yld i Hc x H'→g x σc H' fun σ2 H2=>te σ2 H2 fun y H4=>∃acc,H4 D=some (.lst acc)∧acc.length<sizeLine∧
  ∃m',m'<m∧W (i+1) m' σ2 (upd H4 D (.lst (acc++[y]))))
def Zl3(js:List (Option Nat))(wi:TI)(g:TG)(tc:TT)(te:TE):TE:=fun σ H Q=>wi σ H fun J H1=>∀D,H1 D=none→∃W:Nat→Nat→L2.St→Hp→Prop,(∃m,W 0 m (Tv js σ) (upd H1 D (.lst [])))∧
 ∀i m σc Hc,W i m σc Hc→(J.stop i Hc∧Q (.ref D) Hc)∨(J.go i Hc∧∀x H',J.yld i Hc x H'→g x σc H' fun σ2 H2=>tc σ2 H2 fun b H3=>if b=true then te σ2 H3 fun y H4=>∃acc,H4 D=some (.lst acc)∧acc.length<sizeLine∧
  ∃m',m'<m∧W (i+1) m' σ2 (upd H4 D (.lst (acc++[y]))) else ∃m',m'<m∧W (i+1) m' σ2 H3)
theorem Qh{pins:List (Addr×Obj)}{σ:L2.St}{H2:Hp}{s2:Shared}{cl:List (Str×Addr)}{it:Addr}{fp:List Addr}{tn:Nat→Heap→Prop}{J:It}{QD:Addr→Hp→Prop}{R:Value→Addr→Result→Shared→Prop}{E:Value→Shared→Prop}
  (hc:X.calm=true) (S:CompScope X.env.scope X.N N' js scope) (c1:∀x c,cl.lookup x=some c→X.env.cells.lookup x=some c) (c2:∀n,(n,NameKind.free)∈scope.names→∃c,cl.lookup n=some c)
  (hg:∀cl C fp pins s H,PG (cxC X N' scope cl C fp pins s H) tg g) (he:∀cl C fp pins s H,PE (cxC X N' scope cl C fp pins s H) elt te)
  (I2:Inv X pins σ H2 s2) (T:Turn X.prog X.w X.K tg J fp it tn) (st2:tn 0 s2.heap) (f2:∀b∈fp,FpOk X pins H2 b)
  (q:∀D,H2 D=none→∃W:Nat→Nat→L2.St→Hp→Prop,(∃m,W 0 m (Tv js σ) (upd H2 D (.lst [])))∧
   ∀i m σc Hc,W i m σc Hc→(J.stop i Hc∧QD D Hc)∨(J.go i Hc∧∀x H',J.yld i Hc x H'→g x σc H' fun σ2 H2=>te σ2 H2 fun y H4=>∃acc,H4 D=some (.lst acc)∧acc.length<sizeLine∧
    ∃m',m'<m∧W (i+1) m' σ2 (upd H4 D (.lst (acc++[y])))))
  (back:∀(D C:Addr) (Hc:Hp) (s4:Shared),(∃m,s4.heap.Ns C m)→Inv X pins σ Hc s4→Hc C=none→C≠X.env.locals→X.s₀.heap.objs.size≤C→(∀x c,X.env.cells.lookup x=some c→c≠C)→(∀p∈X.pn++pins,p.1≠C)→QD D Hc→R (.ref D) C (.ok .next) s4):
  wpAny (model X.prog X.w) X.A (newList []) (fun acc s3=>wpAny (model X.prog X.w) X.A (newFunctionEnv scope X.env.globals cl [] X.env.qual none .none (some X.env)) (fun cenv s4=>
   codeAny (model X.prog X.w) X.A (.compStart (.ListComp elt [⟨tg,iter,[],0⟩] scope pos) 0 (.ref it) acc {cenv with scope:=relabel scope X.env}) (R acc cenv.locals) s4) E s3) E s2:=by
 refine wpAny_newObj_type (Pk ?_)
 dsimp only
 have I3:Inv X pins σ (upd H2 s2.heap.objs.size (.lst [])) {s2 with heap:=s2.heap.push {cls:= .type "list",data:= .seq ([]:List Value).toArray}}:=I2.lnew (its:=[]) (t':=s2.toks) .nil (Nat.zero_le _)
 obtain⟨W,⟨m0,w0⟩,turn⟩:=q s2.heap.objs.size I2.fresh
 have hob:=T.obj 0 _ st2
 have f3:∀b∈fp,FpOk X pins (upd H2 s2.heap.objs.size (.lst [])) b:=fun b hb=>by
  obtain⟨o,e,_⟩:=hob b hb
  exact⟨by rw[Zf (Nat.ne_of_lt (Heap.lt_size e))];exact(f2 b hb).1,(f2 b hb).2⟩
 generalize hS3:(s2.heap.push {cls:= .type "list",data:= .seq ([]:List Value).toArray}:Heap)=h3 at *
 have k23:∀b o,s2.heap.get? b=some o→h3.get? b=some o:=fun b o e=>by rw[←hS3];exact Heap.get?_push_of_some _ e
 have hlt:∀b∈fp,b<h3.objs.size:=fun b hb=>by
  obtain⟨o,e,_⟩:=hob b hb
  exact Heap.lt_size (k23 b o e)
 have bc:=Qx S.nd I3 {cls:= .type "dict",data:= .dict #[]} c1 c2
 have hns:(pushCells (h3.push {cls:= .type "dict",data:= .dict #[]}) scope.names).Ns h3.objs.size (fun _=>none):=(Heap.Ns.new h3 (.type "dict")).keeps (pushCells_keeps _ _)
 have k31:∀b o,h3.get? b=some o→(pushCells (h3.push {cls:= .type "dict",data:= .dict #[]}) scope.names).get? b=some o:=fun b o e=>pushCells_keeps _ _ b o (Heap.get?_push_of_some _ e)
 dsimp only at bc
 generalize cellsFrom (h3.objs.size+1) scope.names cl=cl' at bc ⊢
 generalize pushCells (h3.push {cls:= .type "dict",data:= .dict #[]}) scope.names=h1 at bc hns k31 ⊢
 have I4:=Pe (tk:=s2.toks) S I3 bc f3 hlt hns k31
 have st4:tn 0 h1:=T.keep 0 _ h1 st2 fun b hb o e=>k31 b o (k23 b o e)
 have nofs:∀b∈fp,b∉(cxC X N' scope cl' h3.objs.size fp pins {s2 with heap:=h3} (upd H2 s2.heap.objs.size (.lst []))).fs:=I4.ok.exfs
 have stat:∀{H':Hp},(∀b∈fp,H' b=none)→∀b∈fp,FpOk (cxC X N' scope cl' h3.objs.size fp pins {s2 with heap:=h3} (upd H2 s2.heap.objs.size (.lst []))) [] H' b:=fun{H'} hn b hb=>
  ⟨hn b hb,Nat.ne_of_lt (hlt b hb),nofs b hb,.inl hb,fun x c e=>(bc.each x c e).elim (fun z=>(f3 b hb).2.2.2.2.1 x c z) (fun z q=>absurd z.1 (Nat.lt_asymm (by rw[q];exact hlt b hb))),fun p hp=>(f3 b hb).2.2.2.2.2 p (by simpa[cxC] using hp)⟩
 have loop:codeAny (model X.prog X.w) X.A (.compLoop (.ListComp elt [⟨tg,iter,[],0⟩] scope pos) 0 (.ref it) (.ref s2.heap.objs.size) (compEnvC scope cl' h3.objs.size X.env))
   (R (.ref s2.heap.objs.size) h3.objs.size) {s2 with heap:=h1,toks:=s2.toks}:=by
  refine Ce (fun n s'=>∃i σc Hc,Inv (cxC X N' scope cl' h3.objs.size fp pins {s2 with heap:=h3} (upd H2 s2.heap.objs.size (.lst []))) [] σc Hc s'∧tn i s'.heap∧(∀b∈fp,Hc b=none)∧W i n σc Hc) ?_ m0
   ⟨0,_,_,I4,st4,fun b hb=>(f3 b hb).1,w0⟩
  rintro n z ⟨i,σc,Hc,Iz,stz,frz,wz⟩
  rcases turn i n σc Hc wz with⟨stop,qd⟩ | ⟨go,step⟩
  ·refine thn (T.done (cxC X N' scope cl' h3.objs.size fp pins {s2 with heap:=h3} (upd H2 s2.heap.objs.size (.lst []))) rfl rfl rfl hc i [] z σc Hc noE Iz (stat frz) stz stop) fun r s4 zz41=>?_
   obtain⟨hr,I5⟩:=zz41
   subst hr
   have J5:Inv X pins σ Hc s4:=I3.call' (s':=s4) I5.os I5.base I5.hok I5.bare fun b hb=>⟨(f3 b hb).2.2.2.1,(f3 b hb).2.1,(f3 b hb).2.2.2.2.1,(f3 b hb).2.2.2.2.2⟩
   obtain⟨m,hm,_⟩:=I5.loc
   refine back _ _ Hc s4 ⟨m,hm⟩ J5 I5.free (Nat.ne_of_gt I3.lt) (Nat.le_trans I3.ok.above (Nat.le_of_lt I3.lt)) (fun x c e z=>?_) (fun p hp z=>?_) qd
   ·obtain⟨v,q⟩:=I3.cell x c e
    exact absurd q.lt (by rw[z];exact Nat.lt_irrefl _)
   ·exact absurd (Heap.lt_size (I3.pin p hp).1) (by rw[z];exact Nat.lt_irrefl _)
  ·refine thn (T.item (cxC X N' scope cl' h3.objs.size fp pins {s2 with heap:=h3} (upd H2 s2.heap.objs.size (.lst []))) rfl rfl rfl hc i [] z σc Hc noE Iz (stat frz) stz go) fun r s4 zz42=>?_
   obtain⟨u,hr,h4⟩:=zz42
   subst hr
   refine thn h4 fun _ s5 zz43=>?_
   obtain⟨x,H5,I5,r5,y5,st5,fr5⟩:=zz43
   have I5':=I5.pinned (stat fr5) (T.obj _ _ st5)
   refine thn (hg _ _ _ _ _ _ _ s5 σc H5 x u _ I5' r5 (step x H5 y5)) fun _ s6 zz44=>?_
   obtain⟨σ6,H6,I6,q6⟩:=zz44
   refine thn (he _ _ _ _ _ _ _ s6 σ6 H6 _ I6 q6) fun v s7 zz45=>?_
   obtain⟨y,H7,I7,r7,acc,hD,hlen,m',hm,w7⟩:=zz45
   refine thn (Rv _ s7 σ6 H7 (.ref s2.heap.objs.size) [y] (.ref s2.heap.objs.size) [v] (fun _ H8=>H8=upd H7 s2.heap.objs.size (.lst (acc++[y]))) I7 rfl (.cons r7 .nil) ⟨_,acc,y,rfl,rfl,hD,hlen,rfl⟩) fun _ s8 zz46=>?_
   obtain⟨_,H8,I8,_,e8⟩:=zz46
   subst e8
   refine⟨m',hm,i+1,σ6,_,I8.unpinned,T.keep _ _ _ st5 fun b hb o e=>(I8.pin (b,o) (List.mem_append_right _ (List.mem_append_right _ (X6 hb e)))).1,fun b hb=>?_,w7⟩
   obtain⟨o,e,d⟩:=T.obj _ _ st5 b hb
   exact(I8.pin (b,o) (List.mem_append_right _ (List.mem_append_right _ (X6 hb e)))).2.1
 exact codeAny_compStart_list loop (T.self _ 0 _ _ _ st4 loop)
theorem Ze8(hc:X.calm=true)(ho:Ti X.env.scope X.N N' js scope=true)(hi:PI X tg iter wi)(hg:∀cl C fp pins s H,PG (cxC X N' scope cl C fp pins s H) tg g)(he:∀cl C fp pins s H,PE (cxC X N' scope cl C fp pins s H) elt te)
  (hs:∀x,foldedSetIterable iter X.env x=pure x:=by intro _;rfl):PE X (.ListComp elt [⟨tg,iter,[],0⟩] scope pos) (Z26 js wi g te):=by
 intro pins s σ H Q I h
 have S:=CompScope.of ho
 obtain⟨cl,hcl,c1,c2⟩:=Vl (scope:=scope) (env:=X.env) fun n hn=>I.ok.has n (S.free n hn)
 rw[eval_ListComp]
 refine wpAny_comprehension_free (use:=none) rfl hs hcl S.kind S.loc (thn (hi pins s σ H _ I h) fun v s1 h1=>thn h1 fun itv s2 h2=>?_)
 obtain⟨it,fp,tn,J,H2,e,I2,T,st2,f2,q2⟩:=h2
 subst e
 refine Qh (QD:=fun D Hc=>Q (.ref D) Hc) (R:=fun acc C=>compPost (model X.prog X.w) X.A X.xe none (EP X pins σ Q) acc C) hc S c1 c2 hg he I2 T st2 f2 q2 ?_
 rintro D C Hc s4 ⟨m,hm⟩ J4 fC nL sC cC pC qd
 refine⟨m,hm,fun h' hs'=>⟨.ref D,Hc,?_,rfl,qd⟩⟩
 exact J4.turned (t':=s4.toks) (fun b o hb e=>(hs'.2 b hb).trans e) fC nL (.inr sC) cC pC
def Zw8(i:Nat)(js:List (Option Nat))(wi:TI)(g:TG)(te:TE):TS:=fun D σ H=>Z26 js wi g te σ H fun v H1=>D.nx (σ.set i (some v)) H1
theorem Ze0{i:Nat}{x:Str}{px spos:Pos}(hc:X.calm=true)(ho:Ti X.env.scope X.N N' js scope=true)(hN:X.N.Nodup)(hx:X.N[i]?=some x)(hl:X.env.scope.names.lookup x=some .local)(hi:PI X tg iter wi)
  (hg:∀cl C fp pins s H,PG (cxC X N' scope cl C fp pins s H) tg g) (he:∀cl C fp pins s H,PE (cxC X N' scope cl C fp pins s H) elt te)
  (hsw:swapsWith (.ListComp elt [⟨tg,iter,[],0⟩] scope pos) (some (.Name x px)) spos.line X.env=pure true)
  (hs:∀x,foldedSetIterable iter X.env x=pure x:=by intro _;rfl):PS X (.Assign [.Name x px] (.ListComp elt [⟨tg,iter,[],0⟩] scope pos) spos) (Zw8 i js wi g te):=by
 intro pins s σ H D I h
 have S:=CompScope.of ho
 obtain⟨cl,hcl,c1,c2⟩:=Vl (scope:=scope) (env:=X.env) fun n hn=>I.ok.has n (S.free n hn)
 rw[exec_Assign_Name_used _ _ _ _ hsw]
 refine wpAny_bind (wpAny_standAt (wpAny_bind ?_))
 show wpAny _ _ (do let _ ←comprehension (.ListComp elt [⟨tg,iter,[],0⟩] scope pos) scope X.env _ (newList []) false (eval iter X.env) (some (assign (.Name x px) X.env))) _ _ s
 refine wpAny_bind (wpAny_mono (wpAny_comprehension_free (use:=some (assign (.Name x px) X.env)) (Q:=fun _ s'=>SP X pins D .next s') rfl hs hcl S.kind S.loc (thn (hi pins s σ H _ I h) fun v s1 h1=>thn h1 fun itv s2 h2=>?_)) (fun _ s' hq=>wpAny_pure (wpAny_pure hq)) fun _ _ e=>e)
 obtain⟨it,fp,tn,J,H2,e,I2,T,st2,f2,q2⟩:=h2
 subst e
 refine Qh (QD:=fun E' Hc=>D.nx (σ.set i (some (.ref E'))) Hc) (R:=fun acc C=>compPost (model X.prog X.w) X.A X.xe (some (assign (.Name x px) X.env)) (fun _ s'=>SP X pins D .next s') acc C) hc S c1 c2 hg he I2 T st2 f2 q2 ?_
 rintro E' C Hc s4 ⟨m,hm⟩ J4 fC nL sC cC pC qd
 show wpAny _ _ (assign (.Name x px) X.env (.ref E')) _ _ s4
 refine wpAny_assign_Name (Rx J4 hN hx (.inl hl) (v:= .ref E') rfl (fun s5 J5 zz47=>?_) (.inr hl))
 obtain⟨a,sb,ha⟩:=zz47
 have hCa:C≠a:=by
  rcases ha with z | z
  ·rw[z];exact nL
  ·exact(cC x a z).symm
 refine⟨m,hm.sameBut sb hCa,fun h' hs'=>⟨σ.set i (some (.ref E')),Hc,?_,qd⟩⟩
 exact J5.turned (t':=s5.toks) (fun b o hb e=>(hs'.2 b hb).trans e) fC nL (.inr sC) cC pC
theorem Q2{pins:List (Addr×Obj)}{σ:L2.St}{H2:Hp}{s2:Shared}{cl:List (Str×Addr)}{it:Addr}{fp:List Addr}{tn:Nat→Heap→Prop}{J:It}{QD:Addr→Hp→Prop}{R:Value→Addr→Result→Shared→Prop}{E:Value→Shared→Prop}
  (hc:X.calm=true) (S:CompScope X.env.scope X.N N' js scope) (c1:∀x c,cl.lookup x=some c→X.env.cells.lookup x=some c) (c2:∀n,(n,NameKind.free)∈scope.names→∃c,cl.lookup n=some c)
  (hg:∀cl C fp pins s H,PG (cxC X N' scope cl C fp pins s H) tg g) (hq:∀cl C fp pins s H,PT (cxC X N' scope cl C fp pins s H) c tc) (he:∀cl C fp pins s H,PE (cxC X N' scope cl C fp pins s H) elt te)
  (I2:Inv X pins σ H2 s2) (T:Turn X.prog X.w X.K tg J fp it tn) (st2:tn 0 s2.heap) (f2:∀b∈fp,FpOk X pins H2 b)
  (q:∀D,H2 D=none→∃W:Nat→Nat→L2.St→Hp→Prop,(∃m,W 0 m (Tv js σ) (upd H2 D (.lst [])))∧
   ∀i m σc Hc,W i m σc Hc→(J.stop i Hc∧QD D Hc)∨(J.go i Hc∧∀x H',J.yld i Hc x H'→g x σc H' fun σ2 H2=>tc σ2 H2 fun b H3=>if b=true then te σ2 H3 fun y H4=>∃acc,H4 D=some (.lst acc)∧acc.length<sizeLine∧
    ∃m',m'<m∧W (i+1) m' σ2 (upd H4 D (.lst (acc++[y]))) else ∃m',m'<m∧W (i+1) m' σ2 H3))
  (back:∀(D C:Addr) (Hc:Hp) (s4:Shared),(∃m,s4.heap.Ns C m)→Inv X pins σ Hc s4→Hc C=none→C≠X.env.locals→X.s₀.heap.objs.size≤C→(∀x c,X.env.cells.lookup x=some c→c≠C)→(∀p∈X.pn++pins,p.1≠C)→QD D Hc→R (.ref D) C (.ok .next) s4):
  wpAny (model X.prog X.w) X.A (newList []) (fun acc s3=>wpAny (model X.prog X.w) X.A (newFunctionEnv scope X.env.globals cl [] X.env.qual none .none (some X.env)) (fun cenv s4=>
   codeAny (model X.prog X.w) X.A (.compStart (.ListComp elt [⟨tg,iter,[c],0⟩] scope pos) 0 (.ref it) acc {cenv with scope:=relabel scope X.env}) (R acc cenv.locals) s4) E s3) E s2:=by
 refine wpAny_newObj_type (Pk ?_)
 dsimp only
 have I3:Inv X pins σ (upd H2 s2.heap.objs.size (.lst [])) {s2 with heap:=s2.heap.push {cls:= .type "list",data:= .seq ([]:List Value).toArray}}:=I2.lnew (its:=[]) (t':=s2.toks) .nil (Nat.zero_le _)
 obtain⟨W,⟨m0,w0⟩,turn⟩:=q s2.heap.objs.size I2.fresh
 have hob:=T.obj 0 _ st2
 have f3:∀b∈fp,FpOk X pins (upd H2 s2.heap.objs.size (.lst [])) b:=fun b hb=>by
  obtain⟨o,e,_⟩:=hob b hb
  exact⟨by rw[Zf (Nat.ne_of_lt (Heap.lt_size e))];exact(f2 b hb).1,(f2 b hb).2⟩
 generalize hS3:(s2.heap.push {cls:= .type "list",data:= .seq ([]:List Value).toArray}:Heap)=h3 at *
 have k23:∀b o,s2.heap.get? b=some o→h3.get? b=some o:=fun b o e=>by rw[←hS3];exact Heap.get?_push_of_some _ e
 have hlt:∀b∈fp,b<h3.objs.size:=fun b hb=>by
  obtain⟨o,e,_⟩:=hob b hb
  exact Heap.lt_size (k23 b o e)
 have bc:=Qx S.nd I3 {cls:= .type "dict",data:= .dict #[]} c1 c2
 have hns:(pushCells (h3.push {cls:= .type "dict",data:= .dict #[]}) scope.names).Ns h3.objs.size (fun _=>none):=(Heap.Ns.new h3 (.type "dict")).keeps (pushCells_keeps _ _)
 have k31:∀b o,h3.get? b=some o→(pushCells (h3.push {cls:= .type "dict",data:= .dict #[]}) scope.names).get? b=some o:=fun b o e=>pushCells_keeps _ _ b o (Heap.get?_push_of_some _ e)
 dsimp only at bc
 generalize cellsFrom (h3.objs.size+1) scope.names cl=cl' at bc ⊢
 generalize pushCells (h3.push {cls:= .type "dict",data:= .dict #[]}) scope.names=h1 at bc hns k31 ⊢
 have I4:=Pe (tk:=s2.toks) S I3 bc f3 hlt hns k31
 have st4:tn 0 h1:=T.keep 0 _ h1 st2 fun b hb o e=>k31 b o (k23 b o e)
 have nofs:∀b∈fp,b∉(cxC X N' scope cl' h3.objs.size fp pins {s2 with heap:=h3} (upd H2 s2.heap.objs.size (.lst []))).fs:=I4.ok.exfs
 have stat:∀{H':Hp},(∀b∈fp,H' b=none)→∀b∈fp,FpOk (cxC X N' scope cl' h3.objs.size fp pins {s2 with heap:=h3} (upd H2 s2.heap.objs.size (.lst []))) [] H' b:=fun{H'} hn b hb=>
  ⟨hn b hb,Nat.ne_of_lt (hlt b hb),nofs b hb,.inl hb,fun x c e=>(bc.each x c e).elim (fun z=>(f3 b hb).2.2.2.2.1 x c z) (fun z q=>absurd z.1 (Nat.lt_asymm (by rw[q];exact hlt b hb))),fun p hp=>(f3 b hb).2.2.2.2.2 p (by simpa[cxC] using hp)⟩
 have loop:codeAny (model X.prog X.w) X.A (.compLoop (.ListComp elt [⟨tg,iter,[c],0⟩] scope pos) 0 (.ref it) (.ref s2.heap.objs.size) (compEnvC scope cl' h3.objs.size X.env))
   (R (.ref s2.heap.objs.size) h3.objs.size) {s2 with heap:=h1,toks:=s2.toks}:=by
  refine Ct (fun n s'=>∃i σc Hc,Inv (cxC X N' scope cl' h3.objs.size fp pins {s2 with heap:=h3} (upd H2 s2.heap.objs.size (.lst []))) [] σc Hc s'∧tn i s'.heap∧(∀b∈fp,Hc b=none)∧W i n σc Hc) ?_ m0
   ⟨0,_,_,I4,st4,fun b hb=>(f3 b hb).1,w0⟩
  rintro n z ⟨i,σc,Hc,Iz,stz,frz,wz⟩
  rcases turn i n σc Hc wz with⟨stop,qd⟩ | ⟨go,step⟩
  ·refine thn (T.done (cxC X N' scope cl' h3.objs.size fp pins {s2 with heap:=h3} (upd H2 s2.heap.objs.size (.lst []))) rfl rfl rfl hc i [] z σc Hc noE Iz (stat frz) stz stop) fun r s4 zz48=>?_
   obtain⟨hr,I5⟩:=zz48
   subst hr
   have J5:Inv X pins σ Hc s4:=I3.call' (s':=s4) I5.os I5.base I5.hok I5.bare fun b hb=>⟨(f3 b hb).2.2.2.1,(f3 b hb).2.1,(f3 b hb).2.2.2.2.1,(f3 b hb).2.2.2.2.2⟩
   obtain⟨m,hm,_⟩:=I5.loc
   refine back _ _ Hc s4 ⟨m,hm⟩ J5 I5.free (Nat.ne_of_gt I3.lt) (Nat.le_trans I3.ok.above (Nat.le_of_lt I3.lt)) (fun x c e z=>?_) (fun p hp z=>?_) qd
   ·obtain⟨v,q⟩:=I3.cell x c e
    exact absurd q.lt (by rw[z];exact Nat.lt_irrefl _)
   ·exact absurd (Heap.lt_size (I3.pin p hp).1) (by rw[z];exact Nat.lt_irrefl _)
  ·refine thn (T.item (cxC X N' scope cl' h3.objs.size fp pins {s2 with heap:=h3} (upd H2 s2.heap.objs.size (.lst []))) rfl rfl rfl hc i [] z σc Hc noE Iz (stat frz) stz go) fun r s4 zz49=>?_
   obtain⟨u,hr,h4⟩:=zz49
   subst hr
   refine thn h4 fun _ s5 zz50=>?_
   obtain⟨x,H5,I5,r5,y5,st5,fr5⟩:=zz50
   have I5':=I5.pinned (stat fr5) (T.obj _ _ st5)
   refine thn (hg _ _ _ _ _ _ _ s5 σc H5 x u _ I5' r5 (step x H5 y5)) fun _ s6 zz51=>?_
   obtain⟨σ6,H6,I6,q6⟩:=zz51
   refine thn (hq _ _ _ _ _ _ _ s6 σ6 H6 _ I6 q6) fun ok s6' zz52=>?_
   obtain⟨H6',I6',q6'⟩:=zz52
   cases ok with
   | false=>
    rw[if_neg Bool.false_ne_true] at q6' ⊢
    obtain⟨m',hm,w7⟩:=q6'
    refine⟨m',hm,i+1,σ6,_,I6'.unpinned,T.keep _ _ _ st5 fun b hb o e=>(I6'.pin (b,o) (List.mem_append_right _ (List.mem_append_right _ (X6 hb e)))).1,fun b hb=>?_,w7⟩
    obtain⟨o,e,d⟩:=T.obj _ _ st5 b hb
    exact(I6'.pin (b,o) (List.mem_append_right _ (List.mem_append_right _ (X6 hb e)))).2.1
   | true=>
   rw[if_pos rfl] at q6' ⊢
   refine thn (he _ _ _ _ _ _ _ s6' σ6 H6' _ I6' q6') fun v s7 zz53=>?_
   obtain⟨y,H7,I7,r7,acc,hD,hlen,m',hm,w7⟩:=zz53
   refine thn (Rv _ s7 σ6 H7 (.ref s2.heap.objs.size) [y] (.ref s2.heap.objs.size) [v] (fun _ H8=>H8=upd H7 s2.heap.objs.size (.lst (acc++[y]))) I7 rfl (.cons r7 .nil) ⟨_,acc,y,rfl,rfl,hD,hlen,rfl⟩) fun _ s8 zz54=>?_
   obtain⟨_,H8,I8,_,e8⟩:=zz54
   subst e8
   refine⟨m',hm,i+1,σ6,_,I8.unpinned,T.keep _ _ _ st5 fun b hb o e=>(I8.pin (b,o) (List.mem_append_right _ (List.mem_append_right _ (X6 hb e)))).1,fun b hb=>?_,w7⟩
   obtain⟨o,e,d⟩:=T.obj _ _ st5 b hb
   exact(I8.pin (b,o) (List.mem_append_right _ (List.mem_append_right _ (X6 hb e)))).2.1
 exact codeAny_compStart_list loop (T.self _ 0 _ _ _ st4 loop)
theorem Za3(hc:X.calm=true)(ho:Ti X.env.scope X.N N' js scope=true)(hi:PI X tg iter wi)(hg:∀cl C fp pins s H,PG (cxC X N' scope cl C fp pins s H) tg g)(hq:∀cl C fp pins s H,PT (cxC X N' scope cl C fp pins s H) c tc)(he:∀cl C fp pins s H,PE (cxC X N' scope cl C fp pins s H) elt te)
  (hs:∀x,foldedSetIterable iter X.env x=pure x:=by intro _;rfl):PE X (.ListComp elt [⟨tg,iter,[c],0⟩] scope pos) (Zl3 js wi g tc te):=by
 intro pins s σ H Q I h
 have S:=CompScope.of ho
 obtain⟨cl,hcl,c1,c2⟩:=Vl (scope:=scope) (env:=X.env) fun n hn=>I.ok.has n (S.free n hn)
 rw[eval_ListComp]
 refine wpAny_comprehension_free (use:=none) rfl hs hcl S.kind S.loc (thn (hi pins s σ H _ I h) fun v s1 h1=>thn h1 fun itv s2 h2=>?_)
 obtain⟨it,fp,tn,J,H2,e,I2,T,st2,f2,q2⟩:=h2
 subst e
 refine Q2 (QD:=fun D Hc=>Q (.ref D) Hc) (R:=fun acc C=>compPost (model X.prog X.w) X.A X.xe none (EP X pins σ Q) acc C) hc S c1 c2 hg hq he I2 T st2 f2 q2 ?_
 rintro D C Hc s4 ⟨m,hm⟩ J4 fC nL sC cC pC qd
 refine⟨m,hm,fun h' hs'=>⟨.ref D,Hc,?_,rfl,qd⟩⟩
 exact J4.turned (t':=s4.toks) (fun b o hb e=>(hs'.2 b hb).trans e) fC nL (.inr sC) cC pC
def Y22(i:Nat)(js:List (Option Nat))(wi:TI)(g:TG)(tc:TT)(te:TE):TS:=fun D σ H=>Zl3 js wi g tc te σ H fun v H1=>D.nx (σ.set i (some v)) H1
theorem Z95{i:Nat}{x:Str}{px spos:Pos}(hc:X.calm=true)(ho:Ti X.env.scope X.N N' js scope=true)(hN:X.N.Nodup)(hx:X.N[i]?=some x)(hl:X.env.scope.names.lookup x=some .local)(hi:PI X tg iter wi)
  (hg:∀cl C fp pins s H,PG (cxC X N' scope cl C fp pins s H) tg g) (hq:∀cl C fp pins s H,PT (cxC X N' scope cl C fp pins s H) c tc) (he:∀cl C fp pins s H,PE (cxC X N' scope cl C fp pins s H) elt te)
  (hsw:swapsWith (.ListComp elt [⟨tg,iter,[c],0⟩] scope pos) (some (.Name x px)) spos.line X.env=pure true)
  (hs:∀x,foldedSetIterable iter X.env x=pure x:=by intro _;rfl):PS X (.Assign [.Name x px] (.ListComp elt [⟨tg,iter,[c],0⟩] scope pos) spos) (Y22 i js wi g tc te):=by
 intro pins s σ H D I h
 have S:=CompScope.of ho
 obtain⟨cl,hcl,c1,c2⟩:=Vl (scope:=scope) (env:=X.env) fun n hn=>I.ok.has n (S.free n hn)
 rw[exec_Assign_Name_used _ _ _ _ hsw]
 refine wpAny_bind (wpAny_standAt (wpAny_bind ?_))
 show wpAny _ _ (do let _ ←comprehension (.ListComp elt [⟨tg,iter,[c],0⟩] scope pos) scope X.env _ (newList []) false (eval iter X.env) (some (assign (.Name x px) X.env))) _ _ s
 refine wpAny_bind (wpAny_mono (wpAny_comprehension_free (use:=some (assign (.Name x px) X.env)) (Q:=fun _ s'=>SP X pins D .next s') rfl hs hcl S.kind S.loc (thn (hi pins s σ H _ I h) fun v s1 h1=>thn h1 fun itv s2 h2=>?_)) (fun _ s' hq=>wpAny_pure (wpAny_pure hq)) fun _ _ e=>e)
 obtain⟨it,fp,tn,J,H2,e,I2,T,st2,f2,q2⟩:=h2
 subst e
 refine Q2 (QD:=fun E' Hc=>D.nx (σ.set i (some (.ref E'))) Hc) (R:=fun acc C=>compPost (model X.prog X.w) X.A X.xe (some (assign (.Name x px) X.env)) (fun _ s'=>SP X pins D .next s') acc C) hc S c1 c2 hg hq he I2 T st2 f2 q2 ?_
 rintro E' C Hc s4 ⟨m,hm⟩ J4 fC nL sC cC pC qd
 show wpAny _ _ (assign (.Name x px) X.env (.ref E')) _ _ s4
 refine wpAny_assign_Name (Rx J4 hN hx (.inl hl) (v:= .ref E') rfl (fun s5 J5 zz55=>?_) (.inr hl))
 obtain⟨a,sb,ha⟩:=zz55
 have hCa:C≠a:=by
  rcases ha with z | z
  ·rw[z];exact nL
  ·exact(cC x a z).symm
 refine⟨m,hm.sameBut sb hCa,fun h' hs'=>⟨σ.set i (some (.ref E')),Hc,?_,qd⟩⟩
 exact J5.turned (t':=s5.toks) (fun b o hb e=>(hs'.2 b hb).trans e) fC nL (.inr sC) cC pC
end
end L3
namespace L3
open PySem
def ExAt(h:Heap)(e:Addr)(cls:Value)(dd:Option Addr)(tb:Value):Prop:=∃oe vs,h.get? e=some oe∧(oe.cls=cls∧oe.dict=dd)∧oe.data= .fields vs∧vs[1]?=some tb
def TbAt(h:Heap)(T:Addr)(fl:Value):Prop:=∃oT ts,h.get? T=some oT∧oT.data= .fields ts∧ts[3]?=some fl
theorem ExAt.at{h h':Heap}{e:Addr}{cls:Value}{dd:Option Addr}{tb:Value}(x:ExAt h e cls dd tb)(k:∀o,h.get? e=some o→h'.get? e=some o):ExAt h' e cls dd tb:=
 let ⟨oe,vs,he,r⟩:=x;⟨oe,vs,k _ he,r⟩
theorem TbAt.at{h h':Heap}{T:Addr}{fl:Value}(x:TbAt h T fl)(k:∀o,h.get? T=some o→h'.get? T=some o):TbAt h' T fl:=
 let ⟨o,ts,he,r⟩:=x;⟨o,ts,k _ he,r⟩
structure Flown(fs xs:List Addr)(h h':Heap):Prop where
 keep:∀b o,h.get? b=some o→b∉fs→b∉xs→h'.get? b=some o
 slot:∀b o,h.get? b=some o→b∈fs→b∉xs→∃sl,h'.get? b=some {o with slots:=sl}
 there:∀b o,h.get? b=some o→∃o',h'.get? b=some o'
theorem Flown.refl(fs xs:List Addr)(h:Heap):Flown fs xs h h:=⟨fun _ _ e _ _=>e,fun _ o e _ _=>⟨o.slots,e⟩,fun _ o e=>⟨o,e⟩⟩
theorem Flown.trans{fs xs ys:List Addr}{h h1 h2:Heap}(a:Flown fs xs h h1)(b:Flown fs ys h1 h2)(hy:∀z∈ys,z∈xs∨h.get? z=none):Flown fs xs h h2 where
 keep:=fun c o e hf hx=>b.keep c o (a.keep c o e hf hx) hf fun z=>(hy c z).elim hx fun q=>by rw[q] at e;cases e
 slot:=fun c o e hf hx=>by
  obtain⟨sl,e1⟩:=a.slot c o e hf hx
  obtain⟨sl',e2⟩:=b.slot c _ e1 hf fun z=>(hy c z).elim hx fun q=>by rw[q] at e;cases e
  exact⟨sl',e2⟩
 there:=fun c o e=>by obtain⟨o1,e1⟩:=a.there c o e;exact b.there c o1 e1
section
variable{M:Model}{A:Around}{E:Value→Shared→Prop}{s:Shared}{base:Heap}{env:Env}{outer:List Env}{L e:Addr}{cls:Value}{dd:Option Addr}{tb:Value}
end
end L3
namespace L3
open PySem PySem.W
section
variable{prog:Program}{w:World}{A:Around}{h:Heap}{g:Array GenState}{d:Drawn}{t:Nat}{os:OsState}
variable{nm q:Str}{C N f:Addr}{bs bm:List Value}{hdct:Bool}{sn:List Str}{sub:List Value}{ab:Bool}{col:Option Bool}{dd:Option Addr}{k0 k1 k2 k3 k5:Option Value}{Bn newId inN:String}{bmN:List Value}
structure ExcCls(h:Heap)(C:Addr)(nm q:Str)(N:Addr)(bs bm:List Value)(hdct:Bool)(sn:List Str)(sub:List Value)(ab:Bool)(col:Option Bool)(dd:Option Addr)(k0 k1 k2 k3 k5:Option Value)(Bn newId:String):Prop where
 obj:h.get? C=some (excClassObj nm q C N bs bm hdct sn sub ab col dd k0 k1 k2 k3 k5 newId)
 hB:(Value.ref C::bm).contains (.type Bn)=true
 hA:(Value.ref C::bm).contains (.type "AttributeError")=false
 hN:(Value.ref C::bm).contains (.type "NameError")=false
 hE:(Value.ref C::bm).contains (.type "BaseException")=true
end
end L3
namespace L3
open PySem PySem.W PySem.Calls PyProof.Rows Builtin Builtin.ObjectAttr
structure ExcSet(K:Frag)(C:Addr)(name:Str):Prop where
 cls:∃cd own,clsIn K C=some cd∧cd.hasDict=true∧cd.mro=own++[.type "ValueError",.type "Exception",.type "BaseException",.type "object"]∧∀v∈own,∃a,v=Value.ref a
 no:findIn K (.ref C) name=some none
 set:findIn K (.ref C) "__setattr__"=some (some (.builtin "object.__setattr__"))
section
variable{prog:Program}{w:World}{A:Around}{K:Frag}{C e:Addr}{s:Shared}{name:Str}{R:Result→Shared→Prop}
structure ExcGet(K:Frag)(C:Addr)(name:Str):Prop where
 cls:∃cd,clsIn K C=some cd∧cd.hasDict=true
 no:findIn K (.ref C) name=some none
 ga:findIn K (.ref C) "__getattribute__"=some (some (.builtin "BaseException.__getattribute__"))
 gh:findIn K (.ref C) "__getattr__"=some none
 base:mroIn K C (.type "BaseException")=some true
theorem Zu7(self:Value):bindSpecial (.builtin "BaseException.__getattribute__") self=pure (.builtin "BaseException.__getattribute__",[self]):=by kernel_rfl
theorem Zm7:builtinKind "BaseException.__getattribute__"=some .slot:=by decide+kernel
theorem Zi3:splitId "BaseException.__getattribute__"=some ("BaseException","__getattribute__"):=by decide+kernel
theorem Zd8:plainId "BaseException.__getattribute__"=true:=by decide+kernel
theorem Zu5(a b:Value):argsOk "BaseException.__getattribute__" ⟨[a,b],[]⟩:=by unfold argsOk;kernel_rfl
end
end L3
namespace L3
open PySem PySem.Spec PyProof.Rows L2
noncomputable def XO(e:Addr)(cls:Value)(dd:Option Addr):HO:= .ext fun h=>∃oe vs tb,h.get? e=some oe∧(oe.cls=cls∧oe.dict=dd)∧oe.data= .fields vs∧vs[1]?=some tb
theorem XO.at{P:Program}{w:World}{H:Hp}{h:Heap}{e:Addr}{cls:Value}{dd:Option Addr}(x:X4 P w H h e (XO e cls dd)):∃tb,ExAt h e cls dd tb:=by
 obtain⟨⟨oe,vs,tb,q1,q2,q3,q4⟩,_⟩:=x
 exact⟨tb,oe,vs,q1,q2,q3,q4⟩
noncomputable def CX1(P:Program)(w:World):CXT:=fun outer H s E e s'=>∃(ea T:Addr) (cls:Value) (dd:Option Addr) (H':Hp),e= .ref ea∧s'.os=s.os∧AllBare s'.gens∧Un (frs outer) [] H H' s.heap s'.heap∧HOk P w H' s'.heap∧
 (s.heap.objs.size≤ea∧s.heap.objs.size≤T)∧H' ea=some (XO ea cls dd)∧(H' T=none∧T≠ea)∧ExAt s'.heap ea cls dd (.ref T)∧TbAt s'.heap T .none∧E cls dd H'
structure Leaves(X:Cx)(E:XK):Prop where
 stk:X.stack=X.env::X.outer
 fr:X.env.frame=some X.env.locals
 ex:X.ex=[]
 xe:∀e s',wpAny (model X.prog X.w) X.A (leaving X.env e) (fun _ s''=>CX1 X.prog X.w X.outer X.H₀ X.s₀ E e s'') (fun e' s''=>CX1 X.prog X.w X.outer X.H₀ X.s₀ E e' s'') s'→X.xe e s'
section
variable{X:Cx}{E:XK}{pins:List (Addr×Obj)}{σ:L2.St}{H:Hp}{s:Shared}{e T:Addr}{cls:Value}{dd:Option Addr}{xs:List Addr}{h1:Heap}{fl:Value}
end
section
variable{X:Cx}{pos pos':Pos}{o value:Expr}{f:Str}{ta tv:TE}
end
structure ExcMk(K:PySem.W.Frag)(C f:Addr):Prop where
 cls:∃nm q N bs bm hdct sn sub ab col dd k0 k1 k2 k3 k5,K.lookup C=some (excClassObj nm q C N bs bm hdct sn sub ab col dd k0 k1 k2 k3 k5 "ValueError.__new__")∧(Value.ref C::bm).contains (.type "ValueError")=true∧
  (Value.ref C::bm).contains (.type "AttributeError")=false∧(Value.ref C::bm).contains (.type "NameError")=false∧(Value.ref C::bm).contains (.type "BaseException")=true
 init:PySem.W.findIn K (.ref C) "__init__"=some (some (.ref f))
 fn:PySem.W.isFn K (.ref f)=true
 kp:PySem.W.keepIn K (.ref C)=true
theorem ExcMk.at{K:PySem.W.Frag}{C f:Addr}(M:ExcMk K C f){h:Heap}(k:K.In h):∃nm q N bs bm hdct sn sub ab col dd k0 k1 k2 k3 k5,ExcCls h C nm q N bs bm hdct sn sub ab col dd k0 k1 k2 k3 k5 "ValueError" "ValueError.__new__":=by
 obtain⟨nm,q,N,bs,bm,hdct,sn,sub,ab,col,dd,k0,k1,k2,k3,k5,h1,h2,h3,h4,h5⟩:=M.cls
 exact⟨nm,q,N,bs,bm,hdct,sn,sub,ab,col,dd,k0,k1,k2,k3,k5,k _ _ h1,h2,h3,h4,h5⟩
section
variable{X:Cx}{k:Nat}{f C:Addr}{fd:FuncData}{ps:List Str}{sp:Sp}{dvs:List V}{ds:List Value}{pins:List (Addr×Obj)}{σ:L2.St}{H:Hp}{s:Shared}{us:List Value}{vs:List V}
end
end L3
namespace L3
open PySem PySem.W PySem.Calls PyProof.Rows Builtin Builtin.ObjectAttr
section
variable{prog:Program}{w:World}{A:Around}{E:Value→Shared→Prop}{K:Frag}{C D e:Addr}{s:Shared}
structure ExcIs(K:Frag)(C:Addr):Prop where
 cls:∃cd,clsIn K C=some cd∧cd.hasDict=true
 ga:findIn K (.ref C) "__getattribute__"=some (some (.builtin "BaseException.__getattribute__"))
 gh:findIn K (.ref C) "__getattr__"=some none
 base:mroIn K C (.type "BaseException")=some true
 own:findIn K (.ref C) "__class__"=some (some (.builtin "object.__class__"))
 ds:specialIn K (.builtin "object.__class__") "__get__"=some (some (.builtin "getset_descriptor.__get__"))
 tk:takesIn K (.builtin "object.__class__")=some true
 obj:mroIn K C (.type "object")=some true
theorem Z19{oe:Obj}{od:Obj}{Q:Option Value→Shared→Prop}(X:K.In s.heap)(S:ExcIs K C)(J:InstAt s.heap e oe C (some od))(h:Q (some (.ref C)) {s with toks:=s.toks+1}):
  wpAny (model prog w) A (getAttr? (.ref e) "__class__") Q E s:=by
 obtain⟨⟨cd,hcd,hdict⟩,hga,hgh,hbase,hown,hds,htk,hobj⟩:=S
 obtain⟨hp,g,d,t,os⟩:=s
 have hf:findObj K C (some od) "__class__"=some (.bind (.builtin "getset_descriptor.__get__") (.builtin "object.__class__")):=findObj_data (by rw[hcd];rfl) hown hds htk
 have L0:=J.type (M:=model prog w)
 have L1:=looks_findIn (M:=model prog w) X hga
 have L2:=looks_findIn (M:=model prog w) X hgh
 have L3':=looks_find (M:=model prog w) X J hf
 have sub:Looks (model prog w) hp (isInstance (.ref e) (.type "BaseException")) true:=L0.andThen (looks_mroIn X hbase)
 unfold getAttr? getAttrBy? getAttrBy
 refine wpAny_bind (wpAny_mkText (wpAny_bind (wpAny_attempt (wpAny_holding (wpAny_bind (L0.at (wpAny_bind (L1.at ?_))))))))
 show wpAny _ _ (getAttrByItsOwn _ _ _ _ _ _) _ _ _
 unfold getAttrByItsOwn
 refine wpAny_bind (L2.at (wpAny_bind (wpAny_attempt (wpAny_holding ?_))))
 unfold callGetattribute
 rw[if_neg (by decide)]
 unfold boundAndCalled
 rw[Zu7]
 refine wpAny_bind (wpAny_pure (wpAny_call ?_))
 refine codeAny_call_builtin Zd8 F.entry_bexc_ga (@check_slot (model prog w) _ _ _ "BaseException.__getattribute__" "BaseException" "__getattribute__" (.ref e) [.str "__class__" t] [] _ Zm7 Zi3 sub (Zu5 (.ref e) (.str "__class__" t)) ?_)
 show wpAny _ _ (typeOf (.ref e) >>=fun tp=>find (.ref e) tp "__class__" >>=_) _ _ _
 refine wpAny_bind (L0.at (wpAny_bind (L3'.at ?_)))
 have hcall:=class_get (prog:=prog) (w:=w) (A:=A.in1) (s:=⟨hp,g,d,t+1,os⟩) (tp:= .ref C) (R:=fun r s'=>r= .ok (.ret (.ref C))∧s'=⟨hp,g,d,t+1,os⟩) X J hobj ⟨rfl,rfl⟩
 unfold bindTo
 refine wpAny_bind (wpAny_holding (wpAny_call (codeAny_mono hcall fun r s' z=>?_)))
 obtain⟨rfl,rfl⟩:=z
 refine wpAny_pure ?_
 show wpAny _ _ (handedOut (.ref C)) _ _ _
 exact handed_on rfl (wpAny_pure h)
end
end L3
namespace L3
open PySem PySem.Spec PyProof.Rows L2
section
variable{K:PySem.W.Frag}{C e:Addr}
theorem Fs{oe od:Obj}(S:ExcIs K C):PySem.W.KitX K (.ref e) (.ref C) (fun h=>PySem.W.InstAt h e oe C (some od)) where
 ty:=fun _ _ _ I=>I.type
 it:=fun _ _ X _=>by
  obtain⟨cd,hcd,_⟩:=S.cls
  unfold PySem.W.clsIn at hcd
  split at hcd
  ·rename_i ho
   intro A' Q' E' s' k q
   unfold isType loadHead
   exact wpAny_bind (wpAny_loadPart (k _ _ (X _ _ ho)) (wpAny_pure q))
  ·cases hcd
 ne:=fun h tp dd its n sl X htp=>by
  obtain⟨cd,hcd,_⟩:=S.cls
  refine Bool.eq_false_iff.mpr fun q=>?_
  have z:C=tp:=Value.ref.inj (beq_iff_eq.mp q)
  subst z
  unfold PySem.W.clsIn at hcd
  split at hcd
  ·rename_i ho
   have y:=(X _ _ ho).symm.trans htp
   cases y
  ·cases hcd
 ca:=fun X I k=>Z19 X S I k
variable{X:Cx}{pins:List (Addr×Obj)}{σ:L2.St}{H:Hp}{s:Shared}{dx:Addr}{fs:List (Str×V)}
theorem Gz(I:Inv X pins σ H s)(he:H e=some (XO e (.ref C) (some dx)))(hd:H dx=some (.xd fs)):∃(oe od:Obj) (mA:Str→Option Value),PySem.W.InstAt s.heap e oe C (some od)∧(∀name,PySem.W.lookIn name od=some (mA name))∧∀f,RelO (fs.lookup f) (mA f):=by
 obtain⟨tb,oe,vs,h1,⟨h2,h3⟩,h4,_⟩:=XO.at (I.hok e _ he)
 obtain⟨mA,hn,hr⟩:=(show X4 X.prog X.w H s.heap dx (.xd fs) from I.hok dx _ hd)
 obtain⟨od,q1,q2⟩:=Nv hn
 refine⟨oe,od,mA,⟨h1,h2,by unfold PySem.W.notCls;rw[h4],by rw[h3];exact q1⟩,q2,hr⟩
def rIsX(K:PySem.W.Frag):List V→Hp→VK→Prop:=fun xs H Q=>∃e C dx fs c cv b,xs=[.ref e,c]∧H e=some (XO e (.ref C) (some dx))∧H dx=some (.xd fs)∧ExcIs K C∧(∀u,RelV c u→u=cv)∧PySem.W.kitOne K (.ref C) cv=some b∧Q (.bl b) H
theorem Fi:Ww X (.builtin "isinstance") (rIsX X.K):=by
 intro pins s σ H xs us Q I r h
 obtain⟨e,C,dx,fs,c,cv,b,rfl,he,hd,S,hc,k,q⟩:=h
 obtain⟨u,v,rfl,ru,rv⟩:=Gd r
 obtain rfl:u=Value.ref e:=ru
 cases hc v rv
 obtain⟨oe,od,mA,J,_⟩:=Gz I he hd
 exact PySem.W.kia_one (Fs S) I.kIn J k (fun z=>nomatch z) fun tk=>⟨.bl b,H,I.tok tk,rfl,q⟩
end
section
variable{X:Cx}{k:Nat}{f:Addr}{fd:FuncData}{ps:List Str}{sp:Sp}{dvs:List V}{ds:List Value}{x:Str}{p pos:Pos}{e:Expr}{es:List Expr}{t:TA}
variable{te:TEX}
end
section
variable{X:Cx}{pins:List (Addr×Obj)}{σ:L2.St}{H:Hp}{s:Shared}{e:Addr}
end
structure Catch(K:PySem.W.Frag)(C D:Addr)(b:Bool):Prop where
 ty:PySem.W.typeIn K (.ref D)=some (.type "type")
 cls:(PySem.W.clsIn K D).isSome=true
 exc:PySem.W.mroIn K D (.type "BaseException")=some true
 sub:PySem.W.mroIn K C (.ref D)=some b
section
open PySem.W
end
section
variable{X:Cx}{body suite:List Stmt}{b₀:Stmt}{x n:Str}{np hpos pos:Pos}{D:Addr}{i:Nat}{tb:TSX}{ts:TS}
end
end L3
namespace L3
open PySem PyProof.Rows
section
variable{prog:Program}{w:World}{A:Around}{E:Value→Shared→Prop}{s:Shared}
abbrev Zk0(h:Heap)(z TI TO:Addr)(f0:Value)(b:Bool):Prop:=
 h.get? z=some {cls:= .type "zip",dict:=none,data:= .fields #[f0,.bool b,.bool false,.ref TI,.ref TO],slots:=#[]}
end
section
variable{prog:Program}{w:World}{A:Around}{E:Value→Shared→Prop}{s:Shared}
structure ZS(h0 h:Heap)(S z TI TO i1 i2 l1 l2:Addr)(xs ys:Array Value)(Ts:List Addr):Prop where
 kept:∀b o,h0.get? b=some o→h.get? b=some o
 zp:(Ts=[]∧Zk0 h z TI TO .none false∧∃a b,IsPair h TO a b)∨∃(T:Addr) (b:Bool) (oT:Obj),Zk0 h z TI TO (rawInt T) b∧h.get? T=some oT
 ti:IsPair h TI (.ref i1) (.ref i2)
 to:∃o,h.get? TO=some o
 t1:h.IsListIter i1 l1 Ts.length
 t2:h.IsListIter i2 l2 Ts.length
 nd:Ts.Nodup
 tp:∀(j:Nat) T,Ts[j]?=some T→∃x y,xs[j]?=some x∧ys[j]?=some y∧IsPair h T x y
 tb:∀T∈Ts,h0.objs.size≤T∧T≠z∧T≠TO∧T≠i1∧T≠i2∧T≠S
structure ZF(h0:Heap)(S z TI TO i1 i2 l1 l2:Addr)(xs ys:Array Value):Prop where
 D:ZipApart z TI TO i1 i2 l1 l2
 l1:h0.IsList l1 xs
 l2:h0.IsList l2 ys
 nz:h0.objs.size≤z
 nTO:h0.objs.size≤TO
 n1:h0.objs.size≤i1
 n2:h0.objs.size≤i2
 nS:h0.objs.size≤S
 sz:S≠z
 sTI:S≠TI
 sTO:S≠TO
 s1:S≠i1
 s2:S≠i2
end
structure ZEnd(h0 h:Heap)(S:Addr)(xs ys:Array Value)(Ts:List Addr):Prop where
 kept:∀b o,h0.get? b=some o→h.get? b=some o
 len:Ts.length=min xs.size ys.size
 nd:Ts.Nodup
 tp:∀(j:Nat) T,Ts[j]?=some T→∃x y,xs[j]?=some x∧ys[j]?=some y∧IsPair h T x y
 tb:∀T∈Ts,h0.objs.size≤T∧T≠S
 so:∃c,h.get? S=some {cls:= .type "list",dict:=none,data:= .seq (Ts.map Value.ref).toArray c,slots:=#[]}
section
variable{prog:Program}{w:World}{A:Around}{R:Result→Shared→Prop}
end
section
variable{prog:Program}{w:World}{A:Around}{E:Value→Shared→Prop}{s:Shared}{R:Result→Shared→Prop}
end
end L3
namespace L3
open PySem PySem.Spec PyProof.Rows L2
section
variable{X:Cx}{pins:List (Addr×Obj)}{σ:L2.St}{H H':Hp}{s:Shared}{h':Heap}
end
section
variable{X:Cx}
end
section
variable{X:Cx}
def tRev(K:PySem.W.Frag)(te:TE)(tk:TO):TE:=fun σ H Q=>te σ H fun x H1=>tk σ H1 fun o H2=>o=some (-1)∧∃a xs,x=V.ref a∧SqL K H2 a xs∧∀p,H2 p=none→Q (.ref p) (upd H2 p (.lst xs.reverse))
theorem Zy5{e k:Expr}{te:TE}{tk:TO}{p2 pos:Pos}(he:PE X e te)(hk:PO X (some k) tk):PE X (.Subscript e (.Slice none none (some k) p2) pos) (tRev X.K te tk):=by
 intro pins s σ H Q I h
 refine Subscript_ (thn (he pins s σ H _ I h) fun v s1 zz56=>?_)
 obtain⟨x,H1,I1,r1,q1⟩:=zz56
 refine wpAny_Slice ?_
 simp only[evalPart_none]
 refine wpAny_pure (wpAny_pure ?_)
 refine thn (hk pins s1 σ H1 _ I1 q1) fun vk s2 zz57=>?_
 obtain⟨o,H2,I2,pk,q2⟩:=zz57
 obtain⟨rfl,a,xs,rfl,hx,q⟩:=q2
 cases r1
 have I3:Inv X pins σ H2 {s2 with heap:=s2.heap.push {cls:= .type "slice",data:= .fields #[.none,.none,vk]}}:=I2.kept (t':=s2.toks) fun b ob q=>Heap.get?_push_of_some _ q
 obtain⟨its,r,ht,hz⟩:=I3.list hx
 have hlen:=r.length
 show wpAny (model X.prog X.w) X.A (subscriptTail e (.Slice none none (some k) p2) (.ref a) (.ref s2.heap.objs.size)) (EP X pins σ Q) X.xe {s2 with heap:=s2.heap.push {cls:= .type "slice",data:= .fields #[.none,.none,vk]}}
 refine tail_any (ops:=[.ref a,.ref s2.heap.objs.size]) ht.isList.typeIs slot_list_getitem.lookup ?_ (by with_unfolding_all rfl)
 refine wpAny_getItem_list_slice ht.isList (Heap.IsSliceOf.new ..) .none .none pk (by simp) ?_ (by rw[List.size_toArray]<;>omega)
 rw[PySem.W.krv_pick]
 refine⟨.ref _,_,I3.laid (t':=s2.toks) (o:= .lst xs.reverse) (fun b ob q=>Heap.get?_push_of_some _ q) (Nat.le_refl _) ?_,rfl,q _ (I3.hok.fresh (Nat.le_refl _))⟩
 exact⟨by rw[List.length_reverse];exact hz,_,0,r.reverse,Heap.get?_push_size _ rfl⟩
def Y17(K:PySem.W.Frag):V→List V→Hp→VK→Prop:=fun x vs H Q=>∃l xs y k z,x= .ref l∧vs=[y]∧SqL K H l xs∧Tp y=true∧xs.all Tp=true∧xs[k]?=some z∧eqV z y=true∧(∀(j:Nat) u,j<k→xs[j]?=some u→eqV u y=false)∧Q (.int k) H
theorem Za1:MtR X "list.index" (Y17 X.K):=by
 intro pins s σ H x vs v us Q I rx rv h
 obtain⟨l,xs,y,k,z,rfl,rfl,hx,fy,fs,hk,he,hno,q⟩:=h
 cases rx
 obtain⟨u,rfl,ru⟩:=Sv rv
 obtain⟨its,r,p,hz⟩:=I.list hx
 obtain⟨⟨cls,dd,data,sl⟩,ho,hc,n,hd⟩:=p.isList
 simp only at hc hd
 subst hc hd
 have hlen:=r.length
 have hkl:=(List.getElem?_eq_some_iff.mp hk).1
 have ev:∀(j:Nat) (w:V),xs[j]?=some w→∀hj:j<its.toArray.size,eqU y its.toArray[j]=eqV w y:=by
  intro j w hw hj
  obtain⟨u',hu',ru'⟩:=r.get hw
  have hf:Tp w=true:=by
   rw[List.all_eq_true] at fs
   exact fs w (List.mem_of_getElem? hw)
  have e:its.toArray[j]=u':=by
   have:=(List.getElem?_eq_some_iff.mp hu').2
   simpa using this
  rw[e];exact Z08 ru' hf
 have h63:=T9
 refine call_meets PySem.F.slot_list_index ⟨_,ho,rfl⟩ PySem.F.entry_list_index (PySem.F.args_list_index_2 _ _)
  (SeqAt.list_indexAt l its.toArray n dd sl u (eqU y) k (by rw[List.size_toArray];omega) (by omega) ?_ ?_) ⟨ho,fun w hw=>Vg ru fy r fs w (by simpa using hw),⟨.int k,H,I.tok _,⟨_,rfl⟩,q⟩⟩
 ·rw[ev k z hk];exact he
 ·intro j hj hlt
  have hj':j<xs.length:=by rw[List.size_toArray] at hj;omega
  rw[ev j _ (List.getElem?_eq_getElem hj')]
  exact hno j _ hlt (List.getElem?_eq_getElem hj')
theorem Zp2{pins:List (Addr×Obj)}{σ:L2.St}{H:Hp}{s:Shared}{h':Heap}{t':Nat}{a b:Addr}(I:Inv X pins σ H s)(k:∀c o,c≠a→c≠b→s.heap.get? c=some o→h'.get? c=some o)(fa:FpOk X pins H a)(fb:FpOk X pins H b):Inv X pins σ H {s with heap:=h',toks:=t'}:=by
 have na:∀c u,H c=some u→c≠a:=by
  intro c u e z
  rw[z,fa.1] at e
  cases e
 have nb:∀c u,H c=some u→c≠b:=by
  intro c u e z
  rw[z,fb.1] at e
  cases e
 have kk:∀c o,c∉[a,b]→s.heap.get? c=some o→h'.get? c=some o:=by
  intro c o hc e
  refine k c o ?_ ?_ e
  ·intro z;apply hc;rw[z];simp
  ·intro z;apply hc;rw[z];simp
 refine I.step (ch:=[a,b]) (g':=s.gens) (d':=s.drawn) ?_ ?_ ?_ ?_ ?_ ?_ ?_ ?_ ?_ ?_ I.bare
 ·intro c hc
  have:c=a∨c=b:=by simpa using hc
  rcases this with rfl | rfl
  ·exact⟨fa.2.2.2.1,fa.2.1,fa.2.2.2.2.1,fa.2.2.2.2.2⟩
  ·exact⟨fb.2.2.2.1,fb.2.1,fb.2.2.2.2.1,fb.2.2.2.2.2⟩
 ·intro c o _ _ hc e _;exact kk c o hc e
 ·intro c o _ _ hc e _;exact⟨o.slots,kk c o hc e⟩
 ·intro _ _ _ _ n;exact n
 ·intro c o hc e;exact⟨o,kk c o hc e⟩
 ·intro _ _ e;exact e
 ·intro _ _ _ e;exact e
 ·intro c ps e;exact⟨#[],by rw[e];simp⟩
 ·rintro m ⟨o,es,ep,ho,r⟩
  exact⟨o,es,ep,k _ o (Ne.symm fa.2.1) (Ne.symm fb.2.1) ho,r⟩
 ·intro c u e
  refine(I.hok c u e).stay ?_ (fun _ q=>q) fun _ _ q=>q
  intro d v hd q
  rcases hd with z | z
  ·subst z;exact k d v (na d u e) (nb d u e) q
  ·exact k d v (na d _ z) (nb d _ z) q
noncomputable def Ite(K:PySem.W.Frag)(a:Addr):It:=
 ⟨fun i H=>∃xs x,SqL K H a xs∧xs[i]?=some x,fun i H x H'=>∃p y,H p=none∧H'=upd H p (.tup [.int i,y])∧x= .ref p∧∀xs,SqL K H a xs→xs[i]?=some y,fun i H=>∃xs,SqL K H a xs∧xs.length≤i⟩
theorem Pb{h:Heap}{o u:Obj}{b:Addr}(e:(h.push o).get? b=some u):h.get? b=some u∨b=h.objs.size:=by
 by_cases hb:b=h.objs.size
 ·exact .inr hb
 ·refine .inl ?_
  have hl:=Heap.lt_size e
  rw[Heap.size_push] at hl
  obtain⟨e1,e2⟩:=Heap.get?_some_iff.mp e
  refine Heap.get?_some_iff.mpr ⟨?_,e2⟩
  cases h
  simpa[Heap.push,Array.getElem?_push,hb] using e1
theorem Bq{P:Program}{w:World}{K:PySem.W.Frag}{elts:List Expr}{x1:Nat}{tp:Pos}(a e it:Addr)(hne:e≠it):
  Turn P w K (.Tuple elts x1 tp) (Ite K a) [e,it] e (fun i h=>(∃old,IsEnum h e it i old)∧h.IsListIter it a i) where
 mem:=by simp
 obj:=by
  rintro i h ⟨⟨old,he⟩,hit⟩ b hb
  have:b=e∨b=it:=by simpa using hb
  rcases this with rfl | rfl
  ·exact⟨_,he,fun v z=>by cases z⟩
  ·obtain⟨o,e,c,d⟩:=hit
   exact⟨o,e,fun v z=>by rw[d] at z;cases z⟩
 keep:=by
  rintro i h h' ⟨⟨old,he⟩,hit⟩ k
  exact⟨⟨old,k e (by simp) _ he⟩,hit.at fun o z=>k it (by simp) o z⟩
 item:=by
  rintro X rfl rfl rfl hc i pins s σ H E I hf ⟨⟨old,he⟩,hit⟩ ⟨xs,x,hq,hx⟩
  obtain⟨its,rv,p,hz⟩:=I.list hq
  obtain⟨u,hu,ru⟩:=rv.get hx
  have fe:=hf e (by simp)
  have fi:=hf it (by simp)
  have le:e<s.heap.objs.size:=Heap.lt_size he
  have li:it<s.heap.objs.size:=by obtain⟨o,z,_⟩:=hit;exact Heap.lt_size z
  refine wpAny_pyNext_enum_item he hit p.isList (x:=u) (by simpa using hu) hne fun h1 ho hit1 hT hsz hk=>?_
  refine⟨_,rfl,wpAny_letOwnedTupleGo_enum ho fun h2 he2 hs2=>?_⟩
  replace hs2:Heap.SameBut e h1 h2:=hs2
  have hT2:h2.get? s.heap.objs.size=some {cls:= .type "tuple",data:= .seq #[.int i s.toks,u]}:=(hs2.2 _ (Nat.ne_of_gt le)).trans hT
  have hn:H s.heap.objs.size=none:=I.hok.fresh (Nat.le_refl _)
  have I1:Inv X pins σ (upd H s.heap.objs.size (.tup [.int i,x])) {s with heap:=s.heap.push {cls:= .type "tuple",data:= .seq #[.int i s.toks,u]},toks:=s.toks+1}:=by
   refine I.laid (fun b ob q=>Heap.get?_push_of_some _ q) (Nat.le_refl _) ⟨show 2≤sizeLine by rw[sizeLine_eq];omega,[.int i s.toks,u],.cons ⟨_,rfl⟩ (.cons ru .nil),⟨_,Heap.get?_push_size _ rfl,rfl,_,rfl⟩⟩
  have up:∀b,b<s.heap.objs.size→FpOk X pins H b→FpOk X pins (upd H s.heap.objs.size (.tup [.int i,x])) b:=by
   rintro b lb ⟨f0,f⟩
   refine⟨?_,f⟩
   rw[Zf (Nat.ne_of_lt lb)]
   exact f0
  have I2:=Zp2 (h':=h2) (t':=s.toks+1) I1 (fun c o ha hb e'=>by
   rcases Pb e' with z | z
   ·exact(hs2.2 c ha).trans (hk c o ha hb z)
   ·subst z
    have z2:(s.heap.push {cls:= .type "tuple",data:= .seq #[.int i s.toks,u]}).get? s.heap.objs.size=some o:=e'
    rw[Heap.get?_push_size _ rfl] at z2
    cases z2
    exact hT2) (up e le fe) (up it li fi)
  refine⟨.ref s.heap.objs.size,_,I2,rfl,⟨_,x,hn,rfl,rfl,fun ys hy=>by rw[I.list_inj hy hq];exact hx⟩,⟨⟨_,by simpa using he2⟩,hit1.at fun o z=>(hs2.2 it (Ne.symm hne)).trans z⟩,fun b hb=>?_⟩
  have:b=e∨b=it:=by simpa using hb
  rcases this with rfl | rfl
  ·exact(up _ le fe).1
  ·exact(up _ li fi).1
 done:=by
  rintro X rfl rfl rfl hc i pins s σ H E I hf ⟨⟨old,he⟩,hit⟩ ⟨xs,hq,hx⟩
  obtain⟨its,rv,p,hz⟩:=I.list hq
  obtain⟨f0,f1,f2,f3,f4,f5⟩:=hf it (by simp)
  have hl:=rv.length
  exact wpAny_pyNext_enum_end (I.ok.hd hc) he hit p.isList (by simp;omega) fun h' eb=>⟨rfl,I.turned (t':=s.toks) (fun b o hb e=>eb b o hb e) f0 f1 f3 f4 f5⟩
 self:=by
  rintro A i s Q E ⟨⟨old,he⟩,hit⟩ h
  exact wpAny_pyIter_enum he h
def Y50(K:PySem.W.Frag)(ta:TA):TI:=fun σ H R=>ta σ H fun vs H1=>∃a,vs=[V.ref a]∧(∃xs,SqL K H1 a xs)∧R (Ite K a) H1
theorem Zw4{elts:List Expr}{x1:Nat}{tp:Pos}{l:Expr}{ta:TA}{p pos:Pos}(hg:Gl X "enumerate")(hm:X.mg "enumerate"=none)(ha:PA X [l] ta)(hs:starEach [l] X.env=[(false,eval l X.env)]):
  PI X (.Tuple elts x1 tp) (.Call (.Name "enumerate" p) [l] [] pos) (Y50 X.K ta):=by
 intro pins s σ H R I h
 refine Call_ (Sf I hg hm (u:= .type "enumerate") (by kernel_rfl) (PyProof.Rows.callWith_type1 (thn (ha pos pins s σ H _ I h) fun us s1 zz58=>?_) hs rfl))
 obtain⟨vs,H1,I1,r1,q1⟩:=zz58
 obtain⟨a,rfl,⟨xs,hq⟩,q⟩:=q1
 obtain⟨u,rfl,ru⟩:=Sv r1
 cases ru
 obtain⟨its,rv,pl,hz⟩:=I1.list hq
 refine call_enumerate_list pl.isList fun h' he hit hsz hk=>?_
 refine wpAny_pyIter_enum he ?_
 have hne:s1.heap.objs.size+1≠s1.heap.objs.size:=by omega
 refine⟨s1.heap.objs.size+1,[s1.heap.objs.size+1,s1.heap.objs.size],_,_,H1,rfl,I1.kept (t':=s1.toks) hk,Bq a _ _ hne,⟨⟨_,he⟩,hit⟩,fun b hb=>?_,q⟩
 have hb':s1.heap.objs.size≤b:=by
  have:b=s1.heap.objs.size+1∨b=s1.heap.objs.size:=by simpa using hb
  rcases this with rfl | rfl
  ·exact Nat.le_succ _
  ·exact Nat.le_refl _
 exact I1.fpOk hb' (I1.hok.fresh hb')
end
end L3
namespace PySem
section
variable{prog:Program}{w:World}{A:Around}{E:Value→Shared→Prop}{R:Result→Shared→Prop}
variable{s:Shared}
end
end PySem
namespace L3
open PySem PySem.Spec PyProof.Rows L2
section
variable{X:Cx}{pins:List (Addr×Obj)}{σ:L2.St}{H:Hp}{s:Shared}
end
noncomputable def Itd(a:Addr)(o:Obj):It:=⟨fun i H=>∃kvs p,H a=some (.frz o (.dK kvs))∧kvs[i]?=some p,fun i H x H'=>H'=H∧∀kvs,H a=some (.frz o (.dK kvs))→∃p,kvs[i]?=some p∧x=kV p.1,fun i H=>∃kvs,H a=some (.frz o (.dK kvs))∧kvs.length≤i⟩
theorem E8{P:Program}{w:World}{H:Hp}{h:Heap}{a:Addr}{o:Obj}{kvs:List (Key×V)}{es:Array DictEntry}{ep:Nat}(x:X4 P w H h a (.frz o (.dK kvs)))(hd:o.data= .dict es ep):
  ∃vs,KV kvs vs∧h.DictAt (Zz P w) a vs ep∧vs.length=es.size:=by
 obtain⟨e,_,_,vs,rel,o',es',ep',e',h1,h2,h3,h4,h5⟩:=x
 rw[e] at e'
 cases e'
 rw[hd] at h2
 cases h2
 refine⟨vs,rel,⟨o,es,e,h1,hd,h3,h4,h5⟩,?_⟩
 have:=h4.length
 simpa using this.symm
theorem Y88{P:Program}{w:World}{k:Key}{u:Value}(h:(Zz P w).is k u=true):L2.RelV (kV k) u:=by
 rcases Zr h with⟨i,t,rfl,rfl⟩ | ⟨x,t,rfl,rfl⟩
 ·exact⟨t,rfl⟩
 ·exact⟨t,rfl⟩
theorem Y85{kvs:List (Key×V)}{vs:List (Key×Value)}(r:KV kvs vs):∀{i:Nat} {p:Key×V},kvs[i]?=some p→∃u,vs[i]?=some (p.1,u)∧L2.RelV p.2 u:=by
 unfold KV at r
 induction r with
 | nil=>intro i p e;simp at e
 | @cons p q ps qs h t ih=>
  intro i p e
  cases i with
  | zero=>
   cases e
   exact⟨q.2,by rw[h.1];rfl,h.2⟩
  | succ i=>exact ih (by simpa using e)
theorem Nm{P:Program}{w:World}{K:PySem.W.Frag}{tg:Expr}(a it:Addr){o:Obj}{es:Array DictEntry}{ep:Nat}(hd:o.data= .dict es ep):Turn P w K tg (Itd a o) [it] it (fun i h=>h.IsKeyIter it a i es.size ep) where
 mem:=by simp
 obj:=fun i h st b hb=>by
  have e:b=it:=by simpa using hb
  subst e
  obtain⟨o,e,c,d⟩:=st
  exact⟨o,e,fun v z=>by rw[d] at z;cases z⟩
 keep:=fun i h h' st k=>st.at fun o e=>k it (by simp) o e
 item:=by
  intro X hP hw hK hc i pins s σ H E I hf st hg
  subst hP hw hK
  obtain⟨kvs,p,hq,hx⟩:=hg
  obtain⟨vs,rel,dd,hl⟩:=E8 (I.hok a _ hq) hd
  obtain⟨q,hx2,e2⟩:=Y85 rel hx
  obtain⟨f0,f1,f2,f3,f4,f5⟩:=hf it (by simp)
  rw[←hl] at st
  refine wpAny_pyNext_dict_item st dd hx2 fun key h' hkey st' sb=>?_
  have I1:Inv X pins σ H {s with heap:=h'}:=I.turned (t':=s.toks) (fun b o hb e=>(sb.2 b hb).trans e) f0 f1 f3 f4 f5
  obtain⟨ob,e,c,d⟩:=id st'
  rw[hl] at st'
  exact⟨key,rfl,Zd9 (s:={s with heap:=h'}) e c d (by decide) ⟨kV p.1,H,I1,Y88 hkey,⟨rfl,fun ys hy=>by rw[hq] at hy;cases hy;exact⟨p,hx,rfl⟩⟩,st',fun b hb=>(hf b hb).1⟩⟩
 done:=by
  intro X hP hw hK hc i pins s σ H E I hf st hg
  subst hP hw hK
  obtain⟨kvs,hq,hx⟩:=hg
  obtain⟨vs,rel,dd,hl⟩:=E8 (I.hok a _ hq) hd
  obtain⟨f0,f1,f2,f3,f4,f5⟩:=hf it (by simp)
  have hl2:=rel.length
  rw[←hl] at st
  exact wpAny_pyNext_dict_end (I.ok.hd hc) st dd (by simp;omega) fun h' eb=>⟨rfl,I.turned (t':=s.toks) (fun b o hb e=>eb b o hb e) f0 f1 f3 f4 f5⟩
 self:=fun _ _ _ _ _ st h=>wpAny_pyIter_keyiter st h
section
variable{X:Cx}{pins:List (Addr×Obj)}{σ:L2.St}{H:Hp}{s:Shared}{a:Addr}
theorem Zd7{kvs:List (Key×V)}(I:Inv X pins σ H s)(e:H a=some (.dK kvs)):
  ∃o es ep,o.data= .dict es ep∧s.heap.get? a=some o∧Inv X pins σ (upd H a (.frz o (.dK kvs))) s∧(∀o u,X.H₀ a≠some (.frz o u)):=by
 obtain⟨z,hd,vs,rel,dd⟩:=Z20 I.hok e
 obtain⟨o,es,ep,ho,h1,h2,h3⟩:=id dd
 refine⟨o,es,ep,h2,ho,?_,fun o' u q=>?_⟩
 ·exact I.write (x:=a) (e:=a) (o:= .frz o (.dK kvs)) (h':=s.heap) (t':=s.toks) (by rw[e];exact True.intro) (.inl rfl) (fun b q _ r=>r) ⟨o,ho⟩ ⟨ho,z,hd,vs,rel,dd⟩
 ·have:=I.base.frzs a o' u q
  rw[e] at this
  cases this
theorem Zj5{kvs:List (Key×V)}{o:Obj}(I:Inv X pins σ H s)(e:H a=some (.frz o (.dK kvs)))(nf:∀o u,X.H₀ a≠some (.frz o u)):Inv X pins σ (upd H a (.dK kvs)) s where
 ok:=I.ok
 os:=I.os
 bare:=I.bare
 base:=by
  have ne:∀b,H b=none→b≠a:=fun b n z=>by subst z;rw[e] at n;cases n
  refine⟨I.base.keep,I.base.slot,fun b q h n hx=>?_,I.base.there,fun b xs h=>?_,fun b q u h=>?_,fun b ps h=>?_⟩
  ·have:=I.base.free b q h n hx
   rw[Zf (ne b this)];exact this
  ·have:=I.base.tups b xs h
   rw[Zf (fun z=>by subst z;rw[e] at this;cases this)];exact this
  ·have:=I.base.frzs b q u h
   rw[Zf (fun z=>by subst z;exact nf q u h)];exact this
  ·obtain⟨m,this⟩:=I.base.tbls b ps h
   exact⟨m,by rw[Zf (fun z=>by subst z;rw[e] at this;cases this)];exact this⟩
 loc:=I.loc
 cell:=I.cell
 free:=by rw[Zf (fun z=>by have:=I.free;rw[z,e] at this;cases this)];exact I.free
 freeC:=fun x c h=>by
  have:=I.freeC x c h
  rw[Zf (fun z=>by subst z;rw[e] at this;cases this)];exact this
 pin:=fun p hp=>by
  obtain⟨h1,h2,h3⟩:=I.pin p hp
  exact⟨h1,by rw[Zf (fun z=>by rw[z,e] at h2;cases h2)];exact h2,h3⟩
 hok:=by
  intro b u h
  by_cases hb:b=a
  ·subst hb
   rw[Zw] at h
   cases h
   obtain⟨_,q⟩:=I.hok b _ e
   exact q
  ·rw[Zf hb] at h
   refine(I.hok b u h).stay (fun c v _ r=>r) (fun c r=>?_) fun c xs r=>?_
   ·rw[Zf (fun z=>by subst z;rw[e] at r;cases r)];exact r
   ·rw[Zf (fun z=>by subst z;rw[e] at r;cases r)];exact r
 len:=I.len
end
section
variable{X:Cx}
theorem Z91{pins:List (Addr×Obj)}{σ:L2.St}{H:Hp}{s:Shared}{h':Heap}{t':Nat}{ch:List Addr}(I:Inv X pins σ H s)(k:∀c o,c∉ch→s.heap.get? c=some o→h'.get? c=some o)(f:∀b∈ch,FpOk X pins H b):Inv X pins σ H {s with heap:=h',toks:=t'}:=by
 have nn:∀c u,H c=some u→c∉ch:=by
  intro c u e z
  rw[(f c z).1] at e
  cases e
 refine I.step (ch:=ch) (g':=s.gens) (d':=s.drawn) ?_ ?_ ?_ ?_ ?_ ?_ ?_ ?_ ?_ ?_ I.bare
 ·intro c hc
  exact⟨(f c hc).2.2.2.1,(f c hc).2.1,(f c hc).2.2.2.2.1,(f c hc).2.2.2.2.2⟩
 ·intro c o _ _ hc e _;exact k c o hc e
 ·intro c o _ _ hc e _;exact⟨o.slots,k c o hc e⟩
 ·intro _ _ _ _ n;exact n
 ·intro c o hc e;exact⟨o,k c o hc e⟩
 ·intro _ _ e;exact e
 ·intro _ _ _ e;exact e
 ·intro c ps e;exact⟨#[],by rw[e];simp⟩
 ·rintro m ⟨o,es,ep,ho,r⟩
  exact⟨o,es,ep,k _ o (fun z=>(f _ z).2.1 rfl) ho,r⟩
 ·intro c u e
  refine(I.hok c u e).stay ?_ (fun _ q=>q) fun _ _ q=>q
  intro d v hd q
  rcases hd with z | z
  ·subst z;exact k d v (nn d u e) q
  ·exact k d v (nn d _ z) q
noncomputable def Itz(K:PySem.W.Frag)(a b:Addr):It:=
 ⟨fun i H=>∃xs ys x y,SqL K H a xs∧SqL K H b ys∧xs[i]?=some x∧ys[i]?=some y,
  fun i H x H'=>∃p u v,H p=none∧H'=upd H p (.tup [u,v])∧x= .ref p∧(∀xs,SqL K H a xs→xs[i]?=some u)∧∀ys,SqL K H b ys→ys[i]?=some v,
  fun i H=>∃xs ys,SqL K H a xs∧SqL K H b ys∧(xs.length≤i∨ys.length≤i)⟩
theorem Zi1{P:Program}{w:World}{K:PySem.W.Frag}{elts:List Expr}{x1:Nat}{tp:Pos}(z TI TO i1 i2 a b:Addr)(D:ZipApart z TI TO i1 i2 a b):
  Turn P w K (.Tuple elts x1 tp) (Itz K a b) [z,TI,TO,i1,i2] z (fun i h=>IsZip h z TI TO .none∧IsPair h TI (.ref i1) (.ref i2)∧(∃u v,IsPair h TO u v)∧h.IsListIter i1 a i∧h.IsListIter i2 b i) where
 mem:=by simp
 obj:=by
  rintro i h ⟨hz,hTI,⟨u,v,hTO⟩,⟨o1,e1,_,d1⟩,⟨o2,e2,_,d2⟩⟩ c hc
  simp only[List.mem_cons,List.not_mem_nil,or_false] at hc
  rcases hc with rfl | rfl | rfl | rfl | rfl
  ·exact⟨_,hz,fun v q=>by cases q⟩
  ·exact⟨_,hTI,fun v q=>by cases q⟩
  ·exact⟨_,hTO,fun v q=>by cases q⟩
  ·exact⟨_,e1,fun v q=>by rw[d1] at q;cases q⟩
  ·exact⟨_,e2,fun v q=>by rw[d2] at q;cases q⟩
 keep:=by
  rintro i h h' ⟨hz,hTI,⟨u,v,hTO⟩,h1,h2⟩ k
  exact⟨k z (by simp) _ hz,k TI (by simp) _ hTI,⟨u,v,k TO (by simp) _ hTO⟩,h1.at fun o q=>k i1 (by simp) o q,h2.at fun o q=>k i2 (by simp) o q⟩
 item:=by
  rintro X rfl rfl rfl hc i pins s σ H E I hf ⟨hz,hTI,⟨u0,v0,hTO⟩,h1,h2⟩ ⟨xs,ys,x,y,hq,hr,hx,hy⟩
  obtain⟨its,rv,p,_⟩:=I.list hq
  obtain⟨jts,rw2,p2,_⟩:=I.list hr
  obtain⟨u,hu,ru⟩:=rv.get hx
  obtain⟨v,hv,rv2⟩:=rw2.get hy
  have lt:∀c∈[z,TI,TO,i1,i2],@LT.lt Nat _ c s.heap.objs.size:=by
   intro c hc
   simp only[List.mem_cons,List.not_mem_nil,or_false] at hc
   obtain⟨o1,e1,_⟩:=id h1
   obtain⟨o2,e2,_⟩:=id h2
   rcases hc with rfl | rfl | rfl | rfl | rfl
   ·exact Heap.lt_size hz
   ·exact Heap.lt_size hTI
   ·exact Heap.lt_size hTO
   ·exact Heap.lt_size e1
   ·exact Heap.lt_size e2
  refine wpAny_pyNext_zip_item D hz hTI hTO h1 h2 p.isList p2.isList (x:=u) (y:=v) (by simpa using hu) (by simpa using hv) fun hh ho hTO2 g1 g2 hT hsz hk=>?_
  refine⟨_,rfl,wpAny_letOwnedTupleGo_zip ho fun h3 hz3 hs3=>?_⟩
  replace hs3:Heap.SameBut z hh h3:=hs3
  have nz:s.heap.objs.size≠z:=Nat.ne_of_gt (lt z (by simp))
  have hT3:h3.get? s.heap.objs.size=some {cls:= .type "tuple",data:= .seq #[u,v]}:=(hs3.2 _ nz).trans hT
  have hn:H s.heap.objs.size=none:=I.hok.fresh (Nat.le_refl _)
  have I1:Inv X pins σ (upd H s.heap.objs.size (.tup [x,y])) {s with heap:=s.heap.push {cls:= .type "tuple",data:= .seq #[u,v]},toks:=s.toks}:=
   I.laid (fun b ob q=>Heap.get?_push_of_some _ q) (Nat.le_refl _) ⟨show 2≤sizeLine by rw[sizeLine_eq];omega,[u,v],.cons ru (.cons rv2 .nil),⟨_,Heap.get?_push_size _ rfl,rfl,_,rfl⟩⟩
  have up:∀c∈[z,TI,TO,i1,i2],FpOk X pins (upd H s.heap.objs.size (.tup [x,y])) c:=by
   intro c hc
   refine⟨?_,(hf c hc).2⟩
   rw[Zf (Nat.ne_of_lt (lt c hc))]
   exact(hf c hc).1
  have I2:=Z91 (h':=h3) (t':=s.toks) I1 (fun c o hc e'=>by
   simp only[List.mem_cons,List.not_mem_nil,or_false,not_or] at hc
   rcases Pb e' with q | q
   ·exact(hs3.2 c hc.1).trans (hk c o hc.1 hc.2.2.1 hc.2.2.2.1 hc.2.2.2.2 q)
   ·subst q
    have z2:(s.heap.push {cls:= .type "tuple",data:= .seq #[u,v]}).get? s.heap.objs.size=some o:=e'
    rw[Heap.get?_push_size _ rfl] at z2
    cases z2
    exact hT3) up
  refine⟨.ref s.heap.objs.size,_,I2,rfl,⟨_,x,y,hn,rfl,rfl,fun zs hs=>by rw[I.list_inj hs hq];exact hx,fun zs hs=>by rw[I.list_inj hs hr];exact hy⟩,
   ⟨hz3,(hs3.2 TI D.TIz).trans (hk TI _ D.TIz D.TITO D.TIi1 D.TIi2 hTI),⟨_,_,(hs3.2 TO D.TOz).trans hTO2⟩,g1.at fun o q=>(hs3.2 i1 D.i1z).trans q,g2.at fun o q=>(hs3.2 i2 D.i2z).trans q⟩,fun c hc=>(up c hc).1⟩
 done:=by
  rintro X rfl rfl rfl hc i pins s σ H E I hf ⟨hz,hTI,⟨u0,v0,hTO⟩,h1,h2⟩ ⟨xs,ys,hq,hr,hl⟩
  obtain⟨its,rv,p,_⟩:=I.list hq
  obtain⟨jts,rw2,p2,_⟩:=I.list hr
  have l1:=rv.length
  have l2:=rw2.length
  refine wpAny_pyNext_zip_end (I.ok.hd hc) D hz hTI hTO h1 h2 p.isList p2.isList ?_ fun h' eb=>⟨rfl,Z91 (t':=s.toks) I (ch:=[z,TI,TO,i1,i2]) (fun c o hc e=>?_) hf⟩
  ·rcases hl with hl | hl
   ·exact .inl (by simp;omega)
   ·exact .inr (by simp;omega)
  ·simp only[List.mem_cons,List.not_mem_nil,or_false,not_or] at hc
   exact eb c o hc.1 hc.2.2.1 hc.2.2.2.1 hc.2.2.2.2 e
 self:=by
  rintro A i s Q E ⟨hz,_⟩ h
  exact wpAny_pyIter_zip hz h
def iZip(K:PySem.W.Frag)(ta:TA):TI:=fun σ H R=>ta σ H fun vs H1=>∃a b,vs=[V.ref a,V.ref b]∧(∃xs,SqL K H1 a xs)∧(∃ys,SqL K H1 b ys)∧R (Itz K a b) H1
theorem Zx3{elts:List Expr}{x1:Nat}{tp:Pos}{l:Expr}{ls:List Expr}{ta:TA}{p pos:Pos}(hg:Gl X "zip")(hm:X.mg "zip"=none)(ha:PA X (l::ls) ta)(he:starEach (l::ls) X.env=(false,eval l X.env)::starEach ls X.env)(hpl:(backTo pos (starEach ls X.env)).any (·.1)=false):
  PI X (.Tuple elts x1 tp) (.Call (.Name "zip" p) (l::ls) [] pos) (iZip X.K ta):=by
 intro pins s σ H R I h
 refine wpAny_Call_Name_kw (Sf I hg hm (u:= .type "zip") (by kernel_rfl) ?_)
 refine PyProof.Rows.callWith_type1 (thn (ha pos pins s σ H _ I h) fun us s1 zz59=>?_) he hpl
 obtain⟨vs,H1,I1,rv,a,b,ev,⟨xs,hp⟩,⟨ys,hq⟩,q⟩:=zz59
 subst ev
 obtain⟨u1,u2,rfl,e1,e2⟩:=Gd rv
 cases e1
 cases e2
 obtain⟨us,r1,pl1,z1⟩:=I1.list hp
 obtain⟨ws,r2,pl2,z2⟩:=I1.list hq
 have L1:=pl1.isList
 have L2:=pl2.isList
 have lt1:@LT.lt Nat _ a s1.heap.objs.size:=by obtain⟨o,e,_⟩:=L1;exact Heap.lt_size e
 have lt2:@LT.lt Nat _ b s1.heap.objs.size:=by obtain⟨o,e,_⟩:=L2;exact Heap.lt_size e
 refine call_zip_2 L1 L2 fun h' a1 a2 a3 a4 a5 a6 kp=>wpAny_pyIter_zip a1 ?_
 have D:ZipApart (s1.heap.objs.size+4) (s1.heap.objs.size+2) (s1.heap.objs.size+3) s1.heap.objs.size (s1.heap.objs.size+1) a b:=by
  constructor<;>(show(_:Nat)≠_)<;>omega
 refine⟨s1.heap.objs.size+4,[s1.heap.objs.size+4,s1.heap.objs.size+2,s1.heap.objs.size+3,s1.heap.objs.size,s1.heap.objs.size+1],_,_,H1,rfl,I1.kept (t':=s1.toks) kp,Zi1 _ _ _ _ _ a b D,⟨a1,a2,⟨_,_,a3⟩,a4,a5⟩,fun c hc=>?_,q⟩
 have hb:@LE.le Nat _ s1.heap.objs.size c:=by
  simp only[List.mem_cons,List.not_mem_nil,or_false] at hc
  rcases hc with rfl | rfl | rfl | rfl | rfl
  ·exact Nat.le_add_right _ _
  ·exact Nat.le_add_right _ _
  ·exact Nat.le_add_right _ _
  ·exact Nat.le_refl _
  ·exact Nat.le_add_right _ _
 exact I1.fpOk hb (I1.hok.fresh hb)
end
end L3
namespace SW
open PySem
def Rise(xs:Array Nat):Prop:=∀i k,i<k→k<xs.size→xs.getD i 0<xs.getD k 0
theorem Rise.le{xs:Array Nat}(h:Rise xs){i k:Nat}(a:i≤k)(b:k<xs.size):xs.getD i 0≤xs.getD k 0:=by
 rcases Nat.lt_or_eq_of_le a with a | rfl
 ·exact Nat.le_of_lt (h i k a b)
 ·exact Nat.le_refl _
theorem Zn6{xs:Array Nat}{i:Nat}(h:i<xs.size)(a b:Nat):xs.getD i a=xs.getD i b:=by
 rw[Array.getD_eq_getD_getElem?,Array.getD_eq_getD_getElem?,Array.getElem?_eq_getElem h];rfl
structure At(xs:Array Nat)(j i:Nat):Prop where
 le:i≤xs.size
 lo:∀k,k<i→xs.getD k 0<j
 hi:∀k,i≤k→k<xs.size→j≤xs.getD k 0
theorem Zv5{xs:Array Nat}(h:Rise xs)(j:Nat):∀(fuel lo hi:Nat),hi - lo≤fuel→lo≤hi→hi≤xs.size→(∀k,k<lo→xs.getD k 0<j)→(∀k,hi≤k→k<xs.size→j≤xs.getD k 0)→At xs j (SetTable.below.go xs j fuel lo hi)
 | 0,lo,hi,hf,hl,hs,a,b=>by
  have e:lo=hi:=by omega
  subst e
  exact⟨hs,a,b⟩
 | fuel+1,lo,hi,hf,hl,hs,a,b=>by
  unfold SetTable.below.go
  by_cases hlt:lo<hi
  ·rw[if_pos hlt]
   dsimp only
   have hm:(lo+hi) / 2<hi:=by omega
   have hm2:lo≤(lo+hi) / 2:=by omega
   rw[Zn6 (by omega:(lo+hi) / 2<xs.size) j 0]
   by_cases hc:xs.getD ((lo+hi) / 2) 0<j
   ·rw[if_pos hc]
    exact Zv5 h j fuel _ _ (by omega) (by omega) hs (fun k hk=>Nat.lt_of_le_of_lt (h.le (by omega) (by omega)) hc) b
   ·rw[if_neg hc]
    exact Zv5 h j fuel _ _ (by omega) (by omega) (by omega) a (fun k hk hk2=>Nat.le_trans (by omega) (h.le hk hk2))
  ·rw[if_neg hlt]
   have e:lo=hi:=by omega
   subst e
   exact⟨hs,a,b⟩
theorem O7{xs:Array Nat}(h:Rise xs)(j:Nat):At xs j (SetTable.below xs j):=by
 unfold SetTable.below
 exact Zv5 h j _ _ _ (by omega) (by omega) (Nat.le_refl _) (fun k hk=>by omega) (fun k a b=>by omega)
theorem At.uniq{xs:Array Nat}{j i i':Nat}(a:At xs j i)(b:At xs j i'):i=i':=by
 rcases Nat.lt_trichotomy i i' with h | h | h
 ·have h1:=b.lo i h
  have h2:=a.hi i (Nat.le_refl _) (by have:=b.le;omega)
  omega
 ·exact h
 ·have h1:=a.lo i' h
  have h2:=b.hi i' (Nat.le_refl _) (by have:=a.le;omega)
  omega
theorem Cg{xs:Array Nat}(h:Rise xs):SetTable.below xs 0=0:=(O7 h 0).uniq ⟨Nat.zero_le _,fun k hk=>by omega,fun k _ _=>Nat.zero_le _⟩
theorem C5{xs:Array Nat}(h:Rise xs){i:Nat}(hi:i<xs.size):SetTable.below xs (xs.getD i 0+1)=i+1:=
 (O7 h _).uniq ⟨hi,fun k hk=>by have:=h.le (show k≤i by omega) hi;omega,fun k a b=>h i k (by omega) b⟩
theorem Oo{α:Type}(xs:Array α)(p:Nat)(x:α)(h:p≤xs.size):(SetTable.insertAt xs p x).size=xs.size+1:=by
 unfold SetTable.insertAt
 simp only[Array.size_append,Array.size_push,Array.size_extract]
 omega
theorem Sm{xs:Array Nat}{p x:Nat}(h:p≤xs.size)(k:Nat):(SetTable.insertAt xs p x).getD k 0=if k<p then xs.getD k 0 else if k=p then x else xs.getD (k - 1) 0:=by
 unfold SetTable.insertAt
 simp only[Array.getD_eq_getD_getElem?,Array.getElem?_append,Array.size_push,Array.size_extract,Array.getElem?_push,Array.getElem?_extract,Nat.min_eq_left h,Nat.sub_zero,Nat.zero_add]
 by_cases h1:k<p
 ·rw[if_pos (by omega),if_neg (by omega),if_pos h1,if_pos h1]
 ·by_cases h2:k=p
  ·subst h2
   rw[if_pos (by omega),if_pos rfl,if_neg (by omega),if_pos rfl];rfl
  ·rw[if_neg (by omega),if_neg h1,if_neg h2,Nat.min_self]
   by_cases h3:k - 1<xs.size
   ·rw[if_pos (by omega),show p+(k - (p+1))=k - 1 by omega]
   ·rw[if_neg (by omega),Array.getElem?_eq_none (by omega)]
theorem Gf{xs:Array Nat}(h:Rise xs){j:Nat}(hn:xs[SetTable.below xs j]?≠some j):Rise (SetTable.insertAt xs (SetTable.below xs j) j):=by
 have a:=O7 h j
 generalize SetTable.below xs j=p at a hn ⊢
 have hgt:∀k,p≤k→k<xs.size→j<xs.getD k 0:=by
  intro k h1 h2
  have h3:=a.hi k h1 h2
  rcases Nat.lt_or_eq_of_le h3 with h4 | h4
  ·exact h4
  ·exfalso
   have h5:=a.hi p (Nat.le_refl _) (by omega)
   have h6:=h.le h1 h2
   have h7:xs.getD p 0=j:=by omega
   apply hn
   rw[Array.getD_eq_getD_getElem?,Array.getElem?_eq_getElem (by omega)] at h7
   rw[Array.getElem?_eq_getElem (by omega)]
   exact congrArg some h7
 intro i k hik hk
 rw[Oo _ _ _ a.le] at hk
 rw[Sm a.le,Sm a.le]
 by_cases h1:i<p
 ·rw[if_pos h1]
  by_cases h2:k<p
  ·rw[if_pos h2];exact h i k hik (by have:=a.le;omega)
  ·rw[if_neg h2]
   by_cases h3:k=p
   ·rw[if_pos h3];exact a.lo i h1
   ·rw[if_neg h3];exact Nat.lt_trans (a.lo i h1) (hgt _ (by omega) (by omega))
 ·rw[if_neg h1,if_neg (show ¬k<p by omega),if_neg (show ¬k=p by omega)]
  by_cases h3:i=p
  ·rw[if_pos h3];exact hgt _ (by omega) (by omega)
  ·rw[if_neg h3];exact h _ _ (by omega) (by omega)
theorem Ep(n:Nat):Rise (Array.range n):=by
 intro i k h1 h2
 rw[Array.size_range] at h2
 simp only[Array.getD_eq_getD_getElem?,Array.getElem?_range]
 rw[if_pos (by omega),if_pos h2]
 exact h1
structure TOk(t:SetTable)(led:Bool):Prop where
 rise:Rise t.place
 dum:t.dummies=#[]
 led:t.led=led
theorem E2(j:Nat):SetTable.has #[] j=false:=rfl
theorem Ej{t:SetTable}(hd:t.dummies=#[])(j:Nat):t.slot j≠ .dummy:=by
 unfold SetTable.slot
 dsimp only
 rw[hd,E2]
 split
 ·intro h;cases h
 ·intro h;rw[if_neg (by decide)] at h;cases h
theorem Cn{t:SetTable}{j:Nat}(h:t.slot j= .empty):t.place[SetTable.below t.place j]?≠some j:=by
 intro e
 unfold SetTable.slot at h
 dsimp only at h
 rw[if_pos (by rw[e];simp)] at h
 cases h
theorem Z15(t:SetTable)(p:SetTable.Probe):(t.advance p).dummy=p.dummy:=by
 unfold SetTable.advance
 split
 ·rfl
 ·rfl
theorem Eb{t:SetTable}(hd:t.dummies=#[])(f:Nat→Int)(h:Int):∀(fuel:Nat) (p:SetTable.Probe) (j:Nat) (d:Option Nat),p.dummy=none→SetTable.probe.go t f h fuel p=some (.empty j d)→d=none∧t.slot j= .empty
 | 0,p,j,d,_,e=>by cases e
 | fuel+1,p,j,d,hp,e=>by
  unfold SetTable.probe.go at e
  cases hs:t.slot p.j with
  | empty=>
   rw[hs] at e
   cases e
   exact⟨hp,hs⟩
  | dummy=>exact absurd hs (Ej hd _)
  | live i=>
   rw[hs] at e
   dsimp only at e
   split at e
   ·cases e
   ·exact Eb hd f h fuel _ j d (by rw[Z15,hp]) e
theorem Eu{t:SetTable}(hd:t.dummies=#[]){h:Int}{k:Nat}{b:Bool}(e:t.freeSlot h=some (k,b)):t.slot k= .empty∧b=false:=by
 unfold SetTable.freeSlot at e
 split at e
 ·rename_i j dm hm
  cases e
  unfold SetTable.probe at hm
  obtain⟨rfl,h2⟩:=Eb hd _ _ _ _ _ _ rfl hm
  exact⟨h2,rfl⟩
 ·cases e
theorem Rb{t:SetTable}{led:Bool}(h:TOk t led)(n:Nat):TOk (t.standIn n) led:=⟨Ep n,rfl,h.led⟩
theorem C4{t:SetTable}{led:Bool}(h:TOk t led)(n:Nat):TOk (t.orStandIn n) led:=by
 unfold SetTable.orStandIn
 split
 ·exact h
 ·exact Rb h n
theorem Zy6{t:SetTable}{led:Bool}(h:TOk t led){j:Nat}(e:t.slot j= .empty):TOk (t.put j).1 led:=by
 unfold SetTable.put
 dsimp only
 refine⟨Gf h.rise (Cn e),?_,h.led⟩
 dsimp only
 rw[h.dum,E2]
 rfl
theorem Zz2{t:SetTable}{led:Bool}(h:TOk t led)(es:Array (Int×Value))(k:Int)(x:Value):TOk (layNew t es k x).2.1 led:=by
 unfold layNew
 cases e:t.freeSlot k with
 | none=>exact Rb h _
 | some s=>
  obtain⟨slot,b⟩:=s
  dsimp only
  exact C4 (Zy6 h (Eu h.dum e).1) _
theorem Zr6{l:List Nat}(hp:l.Pairwise (· < ·)):Rise l.toArray:=by
 intro i k hik hk
 rw[List.size_toArray] at hk
 have:=List.pairwise_iff_getElem.mp hp i k (by omega) hk hik
 simp only[Array.getD_eq_getD_getElem?,List.getElem?_toArray]
 rw[List.getElem?_eq_getElem hk,List.getElem?_eq_getElem (by omega)]
 exact this
theorem Z16(owner:Array (Option Nat))(n:Nat):Rise ((((List.range n).filterMap fun j=>(owner.getD j none).map (j,·)).map (·.1)).toArray):=by
 refine Zr6 ?_
 rw[List.pairwise_map]
 refine List.Pairwise.filterMap _ (R:=(· < ·)) ?_ List.pairwise_lt_range
 intro a b hab x hx y hy
 obtain⟨_,_,rfl⟩:=Option.map_eq_some_iff.mp hx
 obtain⟨_,_,rfl⟩:=Option.map_eq_some_iff.mp hy
 exact hab
theorem Zh7{t:SetTable}{led:Bool}(h:TOk t led)(es:Array (Int×Value))(n:Nat):TOk (relayAll t es n).2.1 led:=by
 unfold relayAll
 cases e:t.relaid (es.map (·.1)) n with
 | none=>exact Rb h _
 | some s=>
  obtain⟨t',order⟩:=s
  dsimp only
  split
  ·unfold SetTable.relaid SetTable.laid at e
   cases e2:SetTable.layClean (SetTable.sizeAbove n - 1) (es.map (·.1)) with
   | none=>rw[e2] at e;cases e
   | some owner=>
    rw[e2] at e
    cases e
    exact⟨Z16 _ _,rfl,h.led⟩
  ·exact Rb h _
end SW
namespace SW
open PySem PyProof.Rows
section
variable{M:Model}{prog:Program}{w:World}{A:Around}{E:Value→Shared→Prop}{s:Shared}
theorem Q9{α:Type}:∀(xs:List α) (i:Nat) (h:i<xs.length),(xs[i]::xs.eraseIdx i).Perm xs
 | x::xs,0,_=>List.Perm.refl _
 | x::xs,i+1,h=>by
  have:=Q9 xs i (by simpa using h)
  exact(List.Perm.swap _ _ _).trans (this.cons x)
theorem Ez{src:Source}{n:Nat}{Q:Nat→Shared→Prop}(hn:n≠0)(h:∀i d,i<n→Q i {s with drawn:=d}):wpAny M A (choose src n) Q E s:=
 fun Γ p hΓ=>⟨hn,h _ _ (Nat.mod_lt _ (Nat.pos_of_ne_zero hn))⟩
theorem Ft{α:Type}:∀(n:Nat) (xs:List α) (s:Shared) (Q:List α→Shared→Prop),xs.length=n→(∀ys d,ys.Perm xs→Q ys {s with drawn:=d})→wpAny M A (drawOrder n xs) Q E s
 | 0,xs,s,Q,e,h=>by
  cases List.length_eq_zero_iff.mp e
  unfold drawOrder
  exact wpAny_pure (h [] s.drawn (List.Perm.refl _))
 | n+1,[],s,Q,e,h=>by cases e
 | n+1,x::xs,s,Q,e,h=>by
  unfold drawOrder
  refine wpAny_bind (Ez (by simp) fun i d hi=>?_)
  rw[List.getElem?_eq_getElem hi]
  dsimp only
  refine wpAny_bind (Ft n _ _ _ ?_ fun ys d2 hp=>wpAny_pure (h _ d2 ?_))
  ·rw[List.length_eraseIdx,if_pos hi];omega
  ·exact(hp.cons _).trans (Q9 (x::xs) i hi)
inductive KeysOf {K:Type} [DecidableEq K] (knd:KeyKind prog w K):List K→List (Int×Value)→Prop
 | nil:KeysOf knd [] []
 | cons {k:K} {e:Int×Value} {ks:List K} {l:List (Int×Value)} (h:knd.is k e.2=true) (r:KeysOf knd ks l):KeysOf knd (k::ks) (e::l)
variable{K:Type}[DecidableEq K]{knd:KeyKind prog w K}
theorem KeysOf.len{ks:List K}{l:List (Int×Value)}(h:KeysOf knd ks l):ks.length=l.length:=by
 induction h with
 | nil=>rfl
 | cons _ _ ih=>rw[List.length_cons,List.length_cons,ih]
theorem KeysOf.mem{ks:List K}{l:List (Int×Value)}(h:KeysOf knd ks l){k:K}:k∈ks↔∃e∈l,knd.is k e.2=true:=by
 induction h with
 | nil=>simp
 | cons h r ih=>
  rename_i k' e ks l
  rw[List.mem_cons,ih]
  constructor
  ·rintro(rfl | ⟨e,he,q⟩)
   ·exact⟨_,List.mem_cons_self,h⟩
   ·exact⟨e,List.mem_cons_of_mem _ he,q⟩
  ·rintro⟨e',he,q⟩
   rcases List.mem_cons.mp he with rfl | he
   ·exact .inl (knd.inj _ _ _ q h)
   ·exact .inr ⟨e',he,q⟩
theorem KeysOf.app{ks ks':List K}{l l':List (Int×Value)}(h:KeysOf knd ks l)(g:KeysOf knd ks' l'):KeysOf knd (ks++ks') (l++l'):=by
 induction h with
 | nil=>exact g
 | cons h _ ih=>exact .cons h ih
theorem KeysOf.perm{l l':List (Int×Value)}(p:l'.Perm l):∀{ks:List K},KeysOf knd ks l→∃ks',ks'.Perm ks∧KeysOf knd ks' l':=by
 induction p with
 | nil=>intro ks h;exact⟨ks,List.Perm.refl _,h⟩
 | cons x p ih=>
  intro ks h
  cases h with
  | cons h r=>
   obtain⟨ks',a,b⟩:=ih r
   exact⟨_,a.cons _,.cons h b⟩
 | swap x y l=>
  intro ks h
  cases h with
  | cons h r=>
   cases r with
   | cons h2 r=>exact⟨_,List.Perm.swap _ _ _,.cons h2 (.cons h r)⟩
 | trans p q ih1 ih2=>
  intro ks h
  obtain⟨k1,a1,b1⟩:=ih2 h
  obtain⟨k2,a2,b2⟩:=ih1 b1
  exact⟨k2,a2.trans a1,b2⟩
structure SetO(knd:KeyKind prog w K)(led:Bool)(o:Obj)(ks:List K):Prop where
 ex:o.ExactSet
 dat:∃es ep t,o.data= .set es ep t∧ElemsOf knd es.toList∧KeysOf knd ks es.toList∧t.fits es.size=true∧TOk t led
 nd:ks.Nodup
 sm:ks.length<scanBound
theorem Zg5{t:SetTable}{led:Bool}(h:TOk t led):TOk {t with plain:=false} led:=⟨h.rise,h.dum,h.led⟩
theorem Zn0{led:Bool}{a:Addr}{o:Obj}{k:K}{x:Value}{ks:List K}{Q:Bool→Shared→Prop}(hk:knd.is k x=true)(hx:x.scannable=true)(ho:s.heap.get? a=some o)(hS:SetO knd led o ks)(hr:ks.length+1<scanBound)
  (h:∀b h' o' ks',Heap.SameBut a s.heap h'→h'.get? a=some o'→SetO knd led o' ks'→(k∈ks→ks'=ks)→(k∉ks→ks'.Perm (ks++[k]))→Q b {s with heap:=h'}):
  wpAny (model prog w) A (setAddHashed a x (knd.hash k)) Q E s:=by
 obtain⟨es,ep,t,hd,he,hks,hf,ht⟩:=hS.dat
 have hlen:=hks.len
 have hl2:es.toList.length=es.size:=Array.length_toList
 have hsm:=hS.sm
 unfold setAddHashed setAddHashedIn
 refine wpAny_holding (wpAny_bind (wpAny_setState_of ho hd hf ?_))
 dsimp only
 rw[byScan_of hx (by omega) he,if_pos rfl]
 unfold setAddByScan
 refine wpAny_bind (wpAny_bind (wpAny_rule (wpAny_bind (wpAny_setScan_of hk ho hd hf he ?_))))
 cases hfd:es.toList.findIdx? (fun e=>knd.is k e.2) with
 | some j=>
  obtain⟨hj,hpj,_⟩:=List.findIdx?_eq_some_iff_getElem.mp hfd
  have hin:k∈ks:=hks.mem.mpr ⟨_,List.getElem_mem hj,hpj⟩
  dsimp only
  refine wpAny_pure (wpAny_pure ?_)
  have:=h false s.heap o ks (Heap.SameBut.refl a s.heap) ho hS (fun _=>rfl) (fun z=>absurd hin z)
  exact this
 | none=>
  have hout:k∉ks:=fun z=>by
   obtain⟨e,h1,h2⟩:=hks.mem.mp z
   have:=List.findIdx?_eq_none_iff.mp hfd e h1
   rw[h2] at this
   cases this
  dsimp only
  have gv:∀(b:Bool) {s1:Shared} {R:Unit→Shared→Prop},R () s1→wpAny (model prog w) A (match b with | true=>rule "set.scan.the-table-gave-way" | false=>pure ()) R E s1:=by
   intro b s1 R q
   cases b
   ·exact wpAny_pure q
   ·exact wpAny_rule q
  have p1:=layNew_perm t es (knd.hash k) x
  have f1:=layNew_fits t es (knd.hash k) x
  have t1:=Zz2 ht es (knd.hash k) x
  generalize layNew t es (knd.hash k) x=L at p1 f1 t1 ⊢
  obtain⟨es1,t2,wd,gave⟩:=L
  dsimp only at p1 f1 t1 ⊢
  rw[Array.toList_push] at p1
  have el1:ElemsOf knd es1.toList:=(he.push hk hx).perm p1
  obtain⟨k1,kp1,ko1⟩:=KeysOf.perm p1 (hks.app (.cons (e:=(knd.hash k,x)) hk .nil))
  have nd1:k1.Nodup:=kp1.nodup_iff.mpr (List.nodup_append.mpr ⟨hS.nd,by simp,fun a ha b hb=>by simp at hb;subst hb;rintro rfl;exact hout ha⟩)
  have ln1:k1.length=ks.length+1:=by rw[kp1.length_eq,List.length_append];rfl
  have sz1:es1.size=k1.length:=by rw[←Array.length_toList,ko1.len]
  refine wpAny_bind (gv _ ?_)
  have key:∀(t3:SetTable),t3.fits es1.size=true→TOk t3 led→wpAny (model prog w) A (do
    storeSet a es1 t3
    if (!wd&&t3.tooFull)=true then do
      (match (relayAll t3 es1 (SetTable.grown es1.size)).2.2 with | true=>rule "set.scan.the-table-gave-way" | false=>pure ())
      storeSet a (relayAll t3 es1 (SetTable.grown es1.size)).1 (relayAll t3 es1 (SetTable.grown es1.size)).2.1
      pure (some true)
     else pure (some true)) (fun r s'=>∃h' o' ks',r=some true∧s'={s with heap:=h'}∧Heap.SameBut a s.heap h'∧h'.get? a=some o'∧SetO knd led o' ks'∧ks'.Perm (ks++[k])) E s:=by
   intro t3 f3 ok3
   have fit1:es1.size≤sizeLine:=fits_of_scanBound (by omega)
   refine wpAny_bind (wpAny_storeSet_of ho hd ?_ fit1)
   have g1:(s.heap.update a (Obj.putSet es1 t3)).get? a=some {o with data:= .set es1 (ep+1) t3}:=by
    have:=Heap.get?_update_self (Obj.putSet es1 t3) ho (by rw[putSet_of es1 t3 hd];rfl)
    rw[putSet_of es1 t3 hd] at this
    exact this
   have o1:SetO knd led {o with data:= .set es1 (ep+1) t3} k1:=⟨hS.ex,⟨es1,_,t3,rfl,el1,ko1,f3,ok3⟩,nd1,by omega⟩
   have sb1:=Heap.SameBut.update s.heap a (Obj.putSet es1 t3)
   split
   ·have p2:=relayAll_perm t3 es1 (SetTable.grown es1.size)
    have f2:=relayAll_fits t3 es1 (SetTable.grown es1.size)
    have ok2:=Zh7 ok3 es1 (SetTable.grown es1.size)
    generalize relayAll t3 es1 (SetTable.grown es1.size)=L at p2 f2 ok2 ⊢
    obtain⟨es2,t4,gv2⟩:=L
    dsimp only at p2 f2 ok2 ⊢
    obtain⟨k2,kp2,ko2⟩:=KeysOf.perm p2 ko1
    have sz2:es2.size=es1.size:=by rw[←Array.length_toList,p2.length_eq,Array.length_toList]
    refine wpAny_bind (gv _ (wpAny_bind (wpAny_storeSet_of g1 rfl ?_ (by rw[sz2];exact fit1))))
    refine wpAny_pure ⟨_,_,k2,rfl,rfl,sb1.trans (Heap.SameBut.update _ a _),Heap.get?_update_self (Obj.putSet es2 t4) g1 rfl,?_,kp2.trans kp1⟩
    exact⟨hS.ex,⟨es2,_,t4,rfl,el1.perm p2,ko2,f2,ok2⟩,kp2.nodup_iff.mpr nd1,by rw[kp2.length_eq];omega⟩
   ·exact wpAny_pure ⟨_,_,k1,rfl,rfl,sb1,g1,o1,kp1⟩
  have fin:∀(t3:SetTable),t3.fits es1.size=true→TOk t3 led→wpAny (model prog w) A (do
    storeSet a es1 t3
    if (!wd&&t3.tooFull)=true then do
      (match (relayAll t3 es1 (SetTable.grown es1.size)).2.2 with | true=>rule "set.scan.the-table-gave-way" | false=>pure ())
      storeSet a (relayAll t3 es1 (SetTable.grown es1.size)).1 (relayAll t3 es1 (SetTable.grown es1.size)).2.1
      pure (some true)
     else pure (some true)) (fun r s'=>wpAny (model prog w) A (match r with | some added=>pure added | none=>setAddHashedIn a x (knd.hash k) 99999) Q E s') E s:=by
   intro t3 f3 ok3
   refine wpAny_mono (key t3 f3 ok3) ?_ fun _ _ z=>z
   rintro r s' ⟨h',o',ks',rfl,rfl,sb,g,so,p⟩
   exact wpAny_pure (h true h' o' ks' sb g so (fun z=>absurd z hout) fun _=>p)
  split
  ·refine wpAny_bind ?_
   rw[hashByValue_scannable 8 hx]
   refine wpAny_pure ?_
   split
   ·exact fin _ f1 t1
   ·exact fin _ (SetTable.fits_plain_off f1) (Zg5 t1)
  ·refine wpAny_bind (wpAny_pure ?_)
   rw[if_pos rfl]
   exact fin _ f1 t1
end
noncomputable def Qo(w:World):Bool:= !w.params.followText "set-order"
section
variable{prog:Program}{w:World}{A:Around}{E:Value→Shared→Prop}{s:Shared}
section
variable{K:Type}[DecidableEq K]{knd:KeyKind prog w K}{R:Result→Shared→Prop}{I:Addr}{fp wr:List Addr}{G:Array GenState→Array GenState→Prop}{n:Nat}{P:Nat→Value→Prop}{St:Nat→Shared→Prop}
theorem Zd3{led:Bool}(W:WalksS prog w A.in1 I fp wr G n P St)(S:Addr)(hSf:S∉fp)(key:Nat→K)(hkey:∀i v,P i v→knd.is (key i) v=true∧v.scannable=true)(hb:n+1<scanBound):
  ∀(m i:Nat) (s:Shared) (o:Obj) (ks:List K),n - i=m→i≤n→St i s→s.heap.get? S=some o→SetO knd led o ks→ks.length≤i→(∀k,k∈ks↔∃j,j<i∧key j=k)→
  (∀s' o' ks',Moved (S::wr) G s s'→s'.heap.get? S=some o'→SetO knd led o' ks'→ks'.length≤n→(∀k,k∈ks'↔∃j,j<n∧key j=k)→R (.ok (.ret .none)) s')→
  codeAny (model prog w) A (.builtin "set.update.loop" ⟨[.ref S,.ref I],[]⟩) R s:=by
 have hSw:S∉wr:=fun z=>hSf (W.sub _ z)
 have hs2:∀b∈wr,b∈S::wr:=fun b z=>List.mem_cons_of_mem _ z
 intro m
 induction m with
 | zero=>
  intro i s o ks hm hi st ho hS hl hmem q
  obtain rfl:i=n:=by omega
  refine codeAny_builtin F.entry_set_update_loop ?_
  rw[Around.under_plainId F.plain_set_update_loop _]
  show wpAny _ A.in1 (pyNext (.ref I) >>=_) _ _ s
  refine wpAny_bind (W.done s _ _ st fun s' mv=>wpAny_pure ?_)
  exact q s' o ks (mv.mono hs2) (mv.heap S _ hSw ho) hS hl hmem
 | succ m ih=>
  intro i s o ks hm hi st ho hS hl hmem q
  have hlt:i<n:=by omega
  refine codeAny_builtin F.entry_set_update_loop ?_
  rw[Around.under_plainId F.plain_set_update_loop _]
  show wpAny _ A.in1 (pyNext (.ref I) >>=_) _ _ s
  refine wpAny_bind (W.item i s _ _ hlt st fun v s' hP st' mv=>?_)
  obtain⟨hk,hx⟩:=hkey i v hP
  show wpAny _ A.in1 (holding [v] (setAdd S v) >>=_) _ _ s'
  refine wpAny_bind (wpAny_holding ?_)
  unfold setAdd
  refine wpAny_holding (wpAny_bind (knd.pyHash hk ?_))
  refine Zn0 (s:={s' with toks:=s'.toks+1}) hk hx (mv.heap S _ hSw ho) hS (by omega) fun b h' o' ks' sb ho' hS' c1 c2=>?_
  have hmem':∀k,k∈ks'↔∃j,j<i+1∧key j=k:=by
   intro k
   have e:(∃j,j<i+1∧key j=k)↔(∃j,j<i∧key j=k)∨key i=k:=by
    constructor
    ·rintro⟨j,h1,h2⟩
     by_cases h3:j=i
     ·subst h3;exact .inr h2
     ·exact .inl ⟨j,by omega,h2⟩
    ·rintro(⟨j,h1,h2⟩ | h2)
     ·exact⟨j,by omega,h2⟩
     ·exact⟨i,by omega,h2⟩
   rw[e,←hmem k]
   by_cases hin:key i∈ks
   ·rw[c1 hin]
    constructor
    ·exact .inl
    ·rintro(z | rfl)
     ·exact z
     ·exact hin
   ·rw[(c2 hin).mem_iff,List.mem_append,List.mem_singleton]
    constructor
    ·rintro(z | rfl)
     ·exact .inl z
     ·exact .inr rfl
    ·rintro(z | rfl)
     ·exact .inl z
     ·exact .inr rfl
  have hl':ks'.length≤i+1:=by
   by_cases hin:key i∈ks
   ·rw[c1 hin];omega
   ·rw[(c2 hin).length_eq,List.length_append,List.length_singleton];omega
  refine wpAny_pure ⟨plainId_quiet F.plain_set_update_loop _,ih (i+1) _ o' ks' (by omega) hlt (W.frame _ s' _ _ st' (Nat.le_succ _) fun b' hb' o2 e=>?_) ho' hS' hl' hmem' fun s2 o2 ks2 mv2 ho2 hS2 l2 m2=>?_⟩
  ·rw[sb.2 b' (fun z:b'=S=>hSf (by rw[←z];exact hb'))];exact e
  ·refine q s2 o2 ks2 (Moved.trans W.gtrans ((mv.mono hs2).then_heap (Nat.le_succ _) fun b' o3 hb' e=>?_) mv2) ho2 hS2 l2 m2
   rw[sb.2 b' (fun z:b'=S=>hb' (by rw[z];exact List.mem_cons_self))];exact e
end
noncomputable def newO(w:World):Obj:={cls:= .type "set",dict:=none,data:= .set #[] 0 (.fresh 0 0 (Qo w))}
theorem Zo6{K:Type}[DecidableEq K]{knd:KeyKind prog w K}:SetO knd (Qo w) (newO w) []:=
 ⟨⟨rfl,rfl,rfl⟩,⟨#[],0,_,rfl,fun e he=>by simp at he,.nil,rfl,⟨fun i k _ h=>by simp[SetTable.fresh] at h,rfl,rfl⟩⟩,List.nodup_nil,by show 0<scanBound;decide⟩
theorem Zh2(a:Value){Q:Value→Shared→Prop}(h:Q (.ref s.heap.objs.size) {s with heap:=s.heap.push (newO w)}):
  codeAny (model prog w) A (.call (.builtin "set.__new__") ⟨[.type "set",a],[]⟩) (wants Q E) s:=by
 refine codeAny_of_tree ?_
 show wpAny _ A.in1 (checkBuiltinCall "set.__new__" ⟨[.type "set",a],[]⟩ >>=fun _=>again (.builtin "set.__new__" ⟨[.type "set",a],[]⟩)) _ _ s
 refine wpAny_bind (wpAny_of_eq (F.newCall_set_1 a) (wpAny_pure ⟨plainId_quiet F.plain_set_new _,codeAny_builtin F.entry_set_new ?_⟩))
 rw[Around.under_plainId F.plain_set_new _]
 unfold Builtin.«set.__new__» Builtin.Frozenset.newClass
 have sub0:=sub_set_self
 obtain⟨hp,g,d,tk,os⟩:=s
 dsimp only
 wp_walk
 refine wpAny_askSetting (wpAny_pure ?_)
 simp only[newObj]
 exact wpAny_bind (wpAny_alloc (wpAny_pure (wpAny_pure h)))
end
section
variable{prog:Program}{w:World}{A:Around}{E:Value→Shared→Prop}{s:Shared}{K:Type}[DecidableEq K]{knd:KeyKind prog w K}
set_option maxHeartbeats 3200000 in
theorem Ze7{l:Addr}{its:Array Value}{key:Nat→K}{Q:Value→Shared→Prop}(hh:A.handled=none)(hl:s.heap.IsList l its)(hkey:∀i v,its[i]?=some v→knd.is (key i) v=true∧v.scannable=true)(hb:its.size+1<scanBound)
  (h:∀h' tk o ks,h'.get? s.heap.objs.size=some o→SetO knd (Qo w) o ks→ks.length≤its.size→(∀k,k∈ks↔∃j,j<its.size∧key j=k)→(∀b o,b<s.heap.objs.size→s.heap.get? b=some o→h'.get? b=some o)→Q (.ref s.heap.objs.size) {s with heap:=h',toks:=tk}):
  wpAny (model prog w) A (call (.type "set") [.ref l]) Q E s:=by
 obtain⟨c0,tl,mro0⟩:=F.called_set.mro
 have made0:=F.called_set.made
 have sub0:=F.called_set.sub
 have nt0:=F.called_set.notType
 have cc0:=F.called_set.canCreate
 have ct0:=F.typeCall_set_1 (.ref l)
 refine wpAny_call (codeAny_of_tree ?_)
 show wpAny _ _ (callAny (.type "set") _) _ _ _
 refine wpAny_pure ⟨Code.quiet_builtin _ (by decide+kernel),codeAny_builtin F.entry_type_call ?_⟩
 rw[Around.under_plain (weight_type_call_type "set" [.ref l] []) rfl]
 repeat (any_goals (first | assumption | wp_step))
 have hnew:=Zh2 (prog:=prog) (w:=w) (A:=A.in1) (s:=s) (E:=E) (.ref l) (Q:=fun v s1=>v= .ref s.heap.objs.size∧s1={s with heap:=s.heap.push (newO w)}) ⟨rfl,rfl⟩
 refine codeAny_mono hnew fun r s1 hr=>?_
 cases r with
 | error e=>exact hr
 | ok fl=>
 cases fl with
 | ret v=>
  obtain⟨rfl,rfl⟩:=hr
  have g0:(s.heap.push (newO w)).get? s.heap.objs.size=some (newO w):=Heap.get?_push_size _ rfl
  have ty0:Shared.TypeIs {s with heap:=s.heap.push (newO w)} (.ref s.heap.objs.size) "set":=⟨_,g0,rfl⟩
  have li0:=F.called_set.init.lookup
  have bi0:=F.called_set.init.bind (.ref s.heap.objs.size)
  repeat (any_goals (first | assumption | wp_step))
  have want:∀s2:Shared,(∃h' tk o ks,s2={s with heap:=h',toks:=tk}∧h'.get? s.heap.objs.size=some o∧SetO knd (Qo w) o ks∧ks.length≤its.size∧(∀k,k∈ks↔∃j,j<its.size∧key j=k)∧(∀b o,b<s.heap.objs.size→s.heap.get? b=some o→h'.get? b=some o))→Q (.ref s.heap.objs.size) s2:=by
   rintro s2 ⟨h',tk,o,ks,rfl,a1,a2,a0,a3,a4⟩
   exact h h' tk o ks a1 a2 a0 a3 a4
  clear h
  refine codeAny_mono (codeAny_call_builtin (R:=wants (fun r s2=>r= .none∧∃h' tk o ks,s2={s with heap:=h',toks:=tk}∧h'.get? s.heap.objs.size=some o∧SetO knd (Qo w) o ks∧ks.length≤its.size∧(∀k,k∈ks↔∃j,j<its.size∧key j=k)∧(∀b o,b<s.heap.objs.size→s.heap.get? b=some o→h'.get? b=some o)) E) F.called_set.init.plain F.entry_set_init (check_set_init_1 ty0 ?_)) fun r2 s2 hr2=>?_
  ·obtain⟨⟨cl,di,da,sl⟩,ol,hcl,nl,hdl⟩:=hl
   simp only at hcl hdl
   subst hcl hdl
   have ol1:(s.heap.push (newO w)).get? l=some {cls:= .type "list",dict:=di,data:= .seq its nl,slots:=sl}:=Heap.get?_push_of_some _ ol
   have s1:=F.sub_list_set
   have s2:=F.sub_list_frozenset
   have s3:(Value.type "list"==Value.type "dict")=false:=by decide
   have il1:(s.heap.push (newO w)).IsList l its:=⟨_,ol1,rfl,nl,rfl⟩
   unfold Builtin.«set.__init__» noKeywords Builtin.Frozenset.updateFrom
   generalize hPI:pyIter=PI
   wp_walk
   subst hPI
   refine wpAny_pyIter_list il1 (wpAny_bind (wpAny_runValue ?_))
   have lS:l<s.heap.objs.size:=Heap.lt_size ol
   have nI:l≠(s.heap.push (newO w)).objs.size:=by rw[Heap.size_push];exact Nat.ne_of_lt (Nat.lt_succ_of_lt lS)
   have nS:s.heap.objs.size∉[(s.heap.push (newO w)).objs.size,l]:=by
    rw[Heap.size_push,List.mem_cons,List.mem_singleton]
    exact fun z=>z.elim (Nat.ne_of_lt (Nat.lt_succ_self _)) (Nat.ne_of_gt lS)
   refine Zd3 (knd:=knd) (led:=Qo w) ((Walks.list (by simp[hh]) _ l nI its).toS) s.heap.objs.size nS key hkey hb _ 0 _ (newO w) [] rfl (Nat.zero_le _) ⟨⟨_,Heap.get?_push_size _ rfl,rfl,rfl⟩,il1.push _⟩ (Heap.get?_push_of_some _ g0) Zo6 (Nat.zero_le _) (fun k=>by simp) ?_
   intro s' o' ks' mv ho' hS' hl' hm'
   obtain⟨h',g',d',tk',os'⟩:=s'
   cases mv.gens
   cases mv.drawn
   cases mv.os
   refine wpAny_pure ?_
   refine wpAny_pure ⟨rfl,h',tk',o',ks',rfl,ho',hS',hl',hm',fun b o hb e=>?_⟩
   refine mv.heap b o ?_ (Heap.get?_push_of_some _ (Heap.get?_push_of_some _ e))
   rw[List.mem_cons,List.mem_singleton,Heap.size_push]
   exact fun z=>z.elim (Nat.ne_of_lt hb) (Nat.ne_of_lt (Nat.lt_succ_of_lt hb))
  ·cases r2 with
   | error e=>exact hr2
   | ok fl2=>
    cases fl2 with
    | ret r=>
     obtain⟨rfl,hw⟩:=hr2
     repeat (any_goals (first | assumption | wp_step))
     exact want _ hw
    | _=>exact hr2.elim
 | _=>exact hr.elim
end
theorem Xu:Slot "set_iterator" "__next__" "set_iterator.__next__":=by
 refine .of (owner:="set_iterator") (n:="__next__") ?_ ?_ ?_ ?_ ?_ ?_
 ·rw[typeLookup_type,builtinLookup_eq_fast];kernel_rfl
 all_goals first | decide+kernel | exact .inl (by decide+kernel) | exact .inr (by decide+kernel) | (rw[isSubtype_type];kernel_rfl)
theorem Rj:entryFor table "set_iterator.__next__"=some Builtin.«set_iterator.__next__»:=entryFor_of_tree (by kernel_rfl)
theorem Fl:Manifest.owners.lookup (String.ofList ['r','o','t','a','r','e','t','i','_','t','e','s'].reverse)=some Manifest.sig_set_iterator:=by kernel_rfl
theorem Od(a:Value):argsOk "set_iterator.__next__" ⟨[a],[]⟩:=by
 unfold argsOk
 rw[signature?_of (id:="set_iterator.__next__") (n:=['_','_','t','x','e','n','_','_']) (o:=['r','o','t','a','r','e','t','i','_','t','e','s']) (by kernel_rfl) Fl]
 kernel_rfl
theorem Zt1:entryFor table "set.__iter__"=some Builtin.«frozenset.__iter__»:=entryFor_alias (id':="frozenset.__iter__") (by kernel_rfl) rfl (by decide+kernel) (by kernel_rfl)
section
variable{prog:Program}{w:World}{A:Around}{E:Value→Shared→Prop}{s:Shared}
noncomputable abbrev itO(f:Value)(i:Nat)(a:Addr)(n ep:Nat):Obj:={cls:= .type "set_iterator",dict:=none,data:= .fields #[f,rawInt i,.ref a,rawInt n,rawInt ep],slots:=#[]}
section
variable{a I:Addr}{o:Obj}{es:Array (Int×Value)}{ep:Nat}{t:SetTable}
theorem Jm{slot i:Nat}{Q:Option (Value×Nat)→Shared→Prop}(ho:s.heap.get? a=some o)(hd:o.data= .set es ep t)(hf:t.fits es.size=true)(ht:w.params.followText "set-order"=true)
  (h:Q (((pickOrder (w.params.setOrder a ep) es)[i]?).map fun e=>(e.2,slot)) s):wpAny (model prog w) A (setNext a slot i ep) Q E s:=by
 unfold setNext
 refine wpAny_bind (wpAny_setState_of ho hd hf ?_)
 dsimp only
 unfold setsByText
 refine wpAny_bind (wpAny_bind (wpAny_askSetting (wpAny_pure ?_)))
 show wpAny _ _ (if w.params.followText "set-order"=true then _ else _) _ _ _
 rw[if_pos ht,if_neg (by simp)]
 refine wpAny_bind ?_
 unfold setWalk
 refine wpAny_bind (wpAny_setState_of ho hd hf ?_)
 dsimp only
 unfold setsByText
 refine wpAny_bind (wpAny_bind (wpAny_askSetting (wpAny_pure ?_)))
 show wpAny _ _ (if w.params.followText "set-order"=true then _ else _) _ _ _
 rw[if_pos ht]
 refine wpAny_bind (wpAny_askSetting (wpAny_pure (wpAny_pure h)))
theorem Qv{slot i:Nat}{Q:Option (Value×Nat)→Shared→Prop}(ho:s.heap.get? a=some o)(hd:o.data= .set es ep t)(hf:t.fits es.size=true)(ht:w.params.followText "set-order"=false)
  (hp:(!t.plain&&decide (es.size >1))=false) (hl:t.led=true)
  (h:Q (match es[SetTable.below t.place slot]?,t.place[SetTable.below t.place slot]? with | some (_,x),some j=>some (x,j+1) | _,_=>none) s):wpAny (model prog w) A (setNext a slot i ep) Q E s:=by
 unfold setNext
 refine wpAny_bind (wpAny_setState_of ho hd hf ?_)
 dsimp only
 unfold setsByText
 refine wpAny_bind (wpAny_bind (wpAny_askSetting (wpAny_pure ?_)))
 show wpAny _ _ (if w.params.followText "set-order"=true then _ else _) _ _ _
 rw[if_neg (by rw[ht];exact Bool.false_ne_true)]
 show wpAny _ _ (if (!t.plain&&decide (es.size >1))=true then _ else _) _ _ _
 rw[if_neg (by rw[hp];exact Bool.false_ne_true)]
 refine wpAny_bind ?_
 show wpAny _ _ (if (!t.led&&!es.isEmpty)=true then _ else _) _ _ _
 rw[if_neg (by rw[hl];exact Bool.false_ne_true)]
 exact wpAny_pure (wpAny_pure h)
theorem Cf{place:Nat}{x:Int×Value}{Q:Value→Shared→Prop}(ho:s.heap.get? a=some o)(hd:o.data= .set es ep t)(hf:t.fits es.size=true)(hx:es[place]?=some x)(h:Q x.2 s):wpAny (model prog w) A (setNextDrawn a place ep) Q E s:=by
 unfold setNextDrawn
 refine wpAny_bind (wpAny_setState_of ho hd hf ?_)
 dsimp only
 rw[if_neg (by simp),hx]
 exact wpAny_pure h
theorem Fe{slot i nx:Nat}{x:Value}{Q:Option Value→Shared→Prop}(hI:s.heap.get? I=some (itO (rawInt slot) i a es.size ep))(ho:s.heap.get? a=some o)(hd:o.data= .set es ep t)(hf:t.fits es.size=true)
  (hn:∀(E':Value→Shared→Prop) (R:Option (Value×Nat)→Shared→Prop),R (some (x,nx)) s→wpAny (model prog w) A.in1 (setNext a slot i ep) R E' s)
  (h:∀h',h'.get? I=some (itO (rawInt nx) (i+1) a es.size ep)→Heap.SameBut I s.heap h'→Q (some x) {s with heap:=h'}):wpAny (model prog w) A (pyNext (.ref I)) Q E s:=by
 have hT:s.TypeIs (.ref I) "set_iterator":=⟨_,hI,rfl⟩
 unfold pyNext
 refine wpAny_bind (wpAny_attempt (wpAny_callSpecial?_slot (name:=Str.ofString "__next__") hT Xu (wpAny_call_entry Xu hT Rj ?_ (Od _))))
 unfold Builtin.«set_iterator.__next__»
 refine wpAny_bind (wpAny_pure ?_)
 refine wpAny_bind (wpAny_fieldsOf hI rfl ?_)
 show wpAny _ _ (setEntries a >>=_) _ _ _
 refine wpAny_bind (wpAny_setEntries_of ho hd hf ?_)
 rw[if_neg (by simp[rawInt])]
 show wpAny _ _ (setNext a (Int.toNat (slot:Int)) (Int.toNat (i:Int)) (Int.toNat (ep:Int)) >>=_) _ _ _
 rw[Int.toNat_natCast,Int.toNat_natCast,Int.toNat_natCast]
 refine wpAny_bind (hn _ _ ?_)
 dsimp only
 refine wpAny_bind (wpAny_setField_rec hI (by simp) fun h1 g1 s1=>?_)
 refine wpAny_bind (wpAny_setField_rec g1 (by simp) fun h2 g2 s2=>?_)
 exact wpAny_pure ⟨_,rfl,wpAny_pure (h h2 g2 (s1.trans s2))⟩
theorem Y02{T:Addr}{oT:Obj}{pl:Array Value}{n:Nat}{Q:Option (Array Value)→Shared→Prop}(hoT:s.heap.get? T=some oT)(hdT:oT.data= .seq pl n)(h:Q (some pl) s):wpAny (model prog w) A (seqItems? (.ref T)) Q E s:=by
 unfold seqItems?
 refine wpAny_bind (wpAny_load hoT ?_)
 rw[hdT]
 exact wpAny_pure h
theorem Fn{Q:Fin→Shared→Prop}{R:Value→Shared→Prop}(hh:A.handled=none)(h:∀h' e,(∀b u,s.heap.get? b=some u→h'.get? b=some u)→(∃u,h'.get? e=some u∧u.cls= .type "StopIteration")→R (.ref e) {s with heap:=h'}):wpAny (model prog w) A (newExc (.type "StopIteration") [] >>=fun e=>(raiseNew e:Sem Fin)) Q R s:=by
 refine wpAny_bind ?_
 simp only[newExc,newTuple]
 refine wpAny_bind (wpAny_newObj_type ?_ (by size_fits))
 refine wpAny_bind (m:=firstArgMember _ _) (wpAny_of_eq (a:=Value.none) (by first | rfl | (simp only[firstArgMember];rfl)) ?_)
 refine wpAny_newObj_type ?_ (by size_fits)
 simp only[raiseNew]
 refine wpAny_bind (wpAny_handled ?_)
 rw[hh]
 refine wpAny_bind (wpAny_pure (wpAny_throw ?_))
 exact h _ _ (fun b u q=>Heap.get?_push_of_some _ (Heap.get?_push_of_some _ q)) ⟨_,Heap.get?_push_size _ rfl,rfl⟩
theorem Z31{slot i:Nat}{Q:Option Value→Shared→Prop}(hh:A.handled=none)(hI:s.heap.get? I=some (itO (rawInt slot) i a es.size ep))(ho:s.heap.get? a=some o)(hd:o.data= .set es ep t)(hf:t.fits es.size=true)
  (hn:∀(E':Value→Shared→Prop) (R:Option (Value×Nat)→Shared→Prop),R none s→wpAny (model prog w) A.in1 (setNext a slot i ep) R E' s)
  (h:∀h',Heap.ExtBut I s.heap h'→Q none {s with heap:=h'}):wpAny (model prog w) A (pyNext (.ref I)) Q E s:=by
 have hT:s.TypeIs (.ref I) "set_iterator":=⟨_,hI,rfl⟩
 unfold pyNext
 refine wpAny_bind (wpAny_attempt (wpAny_callSpecial?_slot (name:=Str.ofString "__next__") hT Xu (wpAny_call_entry Xu hT Rj ?_ (Od _))))
 unfold Builtin.«set_iterator.__next__»
 refine wpAny_bind (wpAny_pure ?_)
 refine wpAny_bind (wpAny_fieldsOf hI rfl ?_)
 show wpAny _ _ (setEntries a >>=_) _ _ _
 refine wpAny_bind (wpAny_setEntries_of ho hd hf ?_)
 rw[if_neg (by simp[rawInt])]
 show wpAny _ _ (setNext a (Int.toNat (slot:Int)) (Int.toNat (i:Int)) (Int.toNat (ep:Int)) >>=_) _ _ _
 rw[Int.toNat_natCast,Int.toNat_natCast,Int.toNat_natCast]
 refine wpAny_bind (hn _ _ ?_)
 dsimp only
 refine wpAny_bind (wpAny_setField_rec hI (by simp) fun h1 g1 s1=>?_)
 refine Fn (A:=A.in1) hh fun h2 e k2 he=>?_
 obtain⟨u,hu,hc⟩:=he
 refine wpAny_bind (wpAny_isInstance (T:="StopIteration") (b:=true) ⟨u,hu,hc⟩ isSubtype_stop ?_)
 exact wpAny_pure (h h2 fun b v hb q=>k2 _ _ (s1.extBut _ _ hb q))
theorem Zf7{T:Addr}{pl:Array Value}{i place:Nat}{x:Int×Value}{Q:Option Value→Shared→Prop}(hI:s.heap.get? I=some (itO (.ref T) i a es.size ep))(hT0:s.heap.IsTuple T pl)(ho:s.heap.get? a=some o)(hd:o.data= .set es ep t)(hf:t.fits es.size=true)
  (hp:pl[i]?=some (rawInt place)) (hx:es[place]?=some x)
  (h:∀h',h'.get? I=some (itO (.ref T) (i+1) a es.size ep)→Heap.SameBut I s.heap h'→Q (some x.2) {s with heap:=h'}):wpAny (model prog w) A (pyNext (.ref I)) Q E s:=by
 have hT:s.TypeIs (.ref I) "set_iterator":=⟨_,hI,rfl⟩
 obtain⟨oT,hoT,hcT,nT,hdT⟩:=hT0
 unfold pyNext
 refine wpAny_bind (wpAny_attempt (wpAny_callSpecial?_slot (name:=Str.ofString "__next__") hT Xu (wpAny_call_entry Xu hT Rj ?_ (Od _))))
 unfold Builtin.«set_iterator.__next__»
 refine wpAny_bind (wpAny_pure ?_)
 refine wpAny_bind (wpAny_fieldsOf hI rfl ?_)
 show wpAny _ _ (setEntries a >>=_) _ _ _
 refine wpAny_bind (wpAny_setEntries_of ho hd hf ?_)
 rw[if_neg (by simp[rawInt])]
 show wpAny _ _ (seqItems? (.ref T) >>=_) _ _ _
 refine wpAny_bind (Y02 hoT hdT ?_)
 dsimp only
 rw[Int.toNat_natCast,hp]
 show wpAny _ _ (setNextDrawn a (Int.toNat (place:Int)) (Int.toNat (ep:Int)) >>=_) _ _ _
 rw[Int.toNat_natCast,Int.toNat_natCast]
 refine wpAny_bind (Cf ho hd hf hx ?_)
 refine wpAny_bind (wpAny_setField_rec hI (by simp) fun h1 g1 s1=>?_)
 exact wpAny_pure ⟨_,rfl,wpAny_pure (h h1 g1 s1)⟩
theorem Zu9{T:Addr}{pl:Array Value}{i:Nat}{Q:Option Value→Shared→Prop}(hh:A.handled=none)(hI:s.heap.get? I=some (itO (.ref T) i a es.size ep))(hT0:s.heap.IsTuple T pl)(ho:s.heap.get? a=some o)(hd:o.data= .set es ep t)(hf:t.fits es.size=true)
  (hp:pl[i]?=none) (h:∀h',Heap.ExtBut I s.heap h'→Q none {s with heap:=h'}):wpAny (model prog w) A (pyNext (.ref I)) Q E s:=by
 have hT:s.TypeIs (.ref I) "set_iterator":=⟨_,hI,rfl⟩
 obtain⟨oT,hoT,hcT,nT,hdT⟩:=hT0
 unfold pyNext
 refine wpAny_bind (wpAny_attempt (wpAny_callSpecial?_slot (name:=Str.ofString "__next__") hT Xu (wpAny_call_entry Xu hT Rj ?_ (Od _))))
 unfold Builtin.«set_iterator.__next__»
 refine wpAny_bind (wpAny_pure ?_)
 refine wpAny_bind (wpAny_fieldsOf hI rfl ?_)
 show wpAny _ _ (setEntries a >>=_) _ _ _
 refine wpAny_bind (wpAny_setEntries_of ho hd hf ?_)
 rw[if_neg (by simp[rawInt])]
 show wpAny _ _ (seqItems? (.ref T) >>=_) _ _ _
 refine wpAny_bind (Y02 hoT hdT ?_)
 dsimp only
 rw[Int.toNat_natCast,hp]
 dsimp only
 refine wpAny_bind (wpAny_setField_rec hI (by simp) fun h1 g1 s1=>?_)
 refine wpAny_bind (wpAny_setField_rec g1 (by simp) fun h2 g2 s2=>?_)
 refine Fn (A:=A.in1) hh fun h3 e k3 he=>?_
 obtain⟨u,hu,hc⟩:=he
 refine wpAny_bind (wpAny_isInstance (T:="StopIteration") (b:=true) ⟨u,hu,hc⟩ isSubtype_stop ?_)
 exact wpAny_pure (h h3 fun b v hb q=>k3 _ _ (s2.extBut _ _ hb (s1.extBut _ _ hb q)))
end
end
theorem Z09{α:Type}(next:Nat→Nat):∀(fuel k:Nat) (left:List α) (out:Array α),left.length=fuel→(pickOrder.go next fuel k left out).toList.Perm (out.toList++left)
 | 0,k,left,out,e=>by
  cases List.length_eq_zero_iff.mp e
  unfold pickOrder.go
  rw[List.append_nil]
 | fuel+1,k,left,out,e=>by
  unfold pickOrder.go
  have hi:next k % left.length<left.length:=Nat.mod_lt _ (by omega)
  rw[List.getElem?_eq_getElem hi]
  dsimp only
  refine(Z09 next fuel (k+1) _ _ (by rw[List.length_eraseIdx,if_pos hi];omega)).trans ?_
  rw[Array.toList_push,List.append_assoc]
  exact(Q9 left _ hi).append_left _
theorem Zc4{α:Type}(next:Nat→Nat)(xs:Array α):(pickOrder next xs).toList.Perm xs.toList:=by
 have:=Z09 next xs.size 0 xs.toList #[] (Array.length_toList)
 unfold pickOrder
 simpa using this
theorem Sl:Slot "set_iterator" "__iter__" "set_iterator.__iter__":=by
 refine .of (owner:="set_iterator") (n:="__iter__") ?_ ?_ ?_ ?_ ?_ ?_
 ·rw[typeLookup_type,builtinLookup_eq_fast];kernel_rfl
 all_goals first | decide+kernel | exact .inl (by decide+kernel) | exact .inr (by decide+kernel) | (rw[isSubtype_type];kernel_rfl)
theorem Of:entryFor table "set_iterator.__iter__"=some Builtin.«dict_keyiterator.__iter__»:=entryFor_alias (id':="dict_keyiterator.__iter__") (by kernel_rfl) rfl (by decide+kernel) (by kernel_rfl)
theorem Jp(a:Value):argsOk "set_iterator.__iter__" ⟨[a],[]⟩:=by
 unfold argsOk
 rw[signature?_of (id:="set_iterator.__iter__") (n:=['_','_','r','e','t','i','_','_']) (o:=['r','o','t','a','r','e','t','i','_','t','e','s']) (by kernel_rfl) Fl]
 kernel_rfl
section
variable{prog:Program}{w:World}{A:Around}{E:Value→Shared→Prop}{s:Shared}
structure ItSt(w:World)(I a T:Addr)(o:Obj)(es:Array (Int×Value))(ep:Nat)(t:SetTable)(vs:List Value)(i:Nat)(h:Heap):Prop where
 set:h.get? a=some o
 md:(w.params.followText "set-order"=true∧vs=(pickOrder (w.params.setOrder a ep) es).toList.map (·.2)∧h.get? I=some (itO (rawInt 0) i a es.size ep))
  ∨(w.params.followText "set-order"=false∧(!t.plain&&decide (es.size >1))=false∧t.led=true∧Rise t.place∧vs=es.toList.map (·.2)∧∃slot,SetTable.below t.place slot=i∧h.get? I=some (itO (rawInt slot) i a es.size ep))
  ∨(∃pl:List Nat,h.IsTuple T (pl.map fun(k:Nat)=>rawInt k).toArray∧vs=pl.map (fun k=>(es.getD k (0,.none)).2)∧(∀k∈pl,k<es.size)∧h.get? I=some (itO (.ref T) i a es.size ep))
theorem Ze3{I a T:Addr}{o:Obj}{es:Array (Int×Value)}{ep:Nat}{t:SetTable}{vs:List Value}(hh:A.handled=none)(na:a≠I)(nT:T≠I)(hd:o.data= .set es ep t)(hf:t.fits es.size=true):
  Walks prog w A I [I,a,T] [I] vs.length (fun i v=>vs[i]?=some v) (ItSt w I a T o es ep t vs) where
 sub:=fun b hb=>by simp at hb;simp[hb]
 frame:=fun i h h' st hk=>by
  refine⟨hk a (by simp) _ st.set,?_⟩
  rcases st.md with⟨h1,h2,h3⟩ | ⟨h1,h2,h3,h4,h5,slot,h6,h7⟩ | ⟨pl,⟨oT,q1,q2⟩,h2,h3,h4⟩
  ·exact .inl ⟨h1,h2,hk I (by simp) _ h3⟩
  ·exact .inr (.inl ⟨h1,h2,h3,h4,h5,slot,h6,hk I (by simp) _ h7⟩)
  ·exact .inr (.inr ⟨pl,⟨oT,hk T (by simp) _ q1,q2⟩,h2,h3,hk I (by simp) _ h4⟩)
 item:=fun i s Q E hi st hQ=>by
  have hfs:t.place.size=es.size:=by
   unfold SetTable.fits at hf
   simp only[Bool.and_eq_true,beq_iff_eq] at hf
   exact hf.1
  have stay:∀{h':Heap},Heap.SameBut I s.heap h'→h'.get? a=some o:=fun sb=>sb.extBut _ _ na st.set
  have old:∀{h':Heap},Heap.SameBut I s.heap h'→∀b u,b∉[I]→s.heap.get? b=some u→h'.get? b=some u:=fun sb b u hb e=>sb.extBut _ _ (by simpa using hb) e
  rcases st.md with⟨h1,h2,h3⟩ | ⟨h1,h2,h3,h4,h5,slot,h6,h7⟩ | ⟨pl,⟨oT,q1,q2⟩,h2,h3,h4⟩
  ·have hx:(pickOrder (w.params.setOrder a ep) es).toList[i]?=some ((pickOrder (w.params.setOrder a ep) es).toList[i]'(by rw[h2,List.length_map] at hi;exact hi)):=List.getElem?_eq_getElem _
   generalize (pickOrder (w.params.setOrder a ep) es).toList[i]'(by rw[h2,List.length_map] at hi;exact hi)=x at hx
   rw[Array.getElem?_toList] at hx
   refine Fe (x:=x.2) (nx:=0) h3 st.set hd hf (fun E' R q=>Jm st.set hd hf h1 (by rw[hx];exact q)) fun h' g sb=>?_
   refine hQ x.2 h' s.toks ?_ ⟨stay sb,.inl ⟨h1,h2,g⟩⟩ (old sb)
   rw[h2,List.getElem?_map,Array.getElem?_toList,hx];rfl
  ·have hi':i<es.size:=by rw[h5,List.length_map,Array.length_toList] at hi;exact hi
   have hx:es[i]?=some es[i]:=Array.getElem?_eq_getElem hi'
   have hp:t.place[i]?=some (t.place.getD i 0):=by rw[Array.getD_eq_getD_getElem?,Array.getElem?_eq_getElem (by omega)];rfl
   refine Fe (x:=es[i].2) (nx:=t.place.getD i 0+1) h7 st.set hd hf (fun E' R q=>Qv st.set hd hf h1 h2 h3 (by rw[h6,hx,hp];exact q)) fun h' g sb=>?_
   refine hQ es[i].2 h' s.toks ?_ ⟨stay sb,.inr (.inl ⟨h1,h2,h3,h4,h5,_,C5 h4 (by omega),g⟩)⟩ (old sb)
   rw[h5,List.getElem?_map,Array.getElem?_toList,hx];rfl
  ·have hi':i<pl.length:=by rw[h2,List.length_map] at hi;exact hi
   have hk:=h3 _ (List.getElem_mem hi')
   refine Zf7 (place:=pl[i]) (x:=es[pl[i]]) h4 ⟨oT,q1,q2⟩ st.set hd hf (by rw[List.getElem?_toArray,List.getElem?_map,List.getElem?_eq_getElem hi'];rfl) (Array.getElem?_eq_getElem hk) fun h' g sb=>?_
   refine hQ _ h' s.toks ?_ ⟨stay sb,.inr (.inr ⟨pl,⟨oT,sb.extBut _ _ nT q1,q2⟩,h2,h3,g⟩)⟩ (old sb)
   rw[h2,List.getElem?_map,List.getElem?_eq_getElem hi']
   show some (es.getD pl[i] _).2=_
   rw[Array.getD_eq_getD_getElem?,Array.getElem?_eq_getElem hk];rfl
 done:=fun s Q E st hQ=>by
  have hfs:t.place.size=es.size:=by
   unfold SetTable.fits at hf
   simp only[Bool.and_eq_true,beq_iff_eq] at hf
   exact hf.1
  have old:∀{h':Heap},Heap.ExtBut I s.heap h'→∀b u,b∉[I]→s.heap.get? b=some u→h'.get? b=some u:=fun sb b u hb e=>sb _ _ (by simpa using hb) e
  rcases st.md with⟨h1,h2,h3⟩ | ⟨h1,h2,h3,h4,h5,slot,h6,h7⟩ | ⟨pl,⟨oT,q1,q2⟩,h2,h3,h4⟩
  ·refine Z31 hh h3 st.set hd hf (fun E' R q=>Jm st.set hd hf h1 ?_) fun h' sb=>hQ h' s.toks (old sb)
   rw[←Array.getElem?_toList,List.getElem?_eq_none (by rw[h2,List.length_map];exact Nat.le_refl _)]
   exact q
  ·refine Z31 hh h7 st.set hd hf (fun E' R q=>Qv st.set hd hf h1 h2 h3 ?_) fun h' sb=>hQ h' s.toks (old sb)
   rw[h6,←Array.getElem?_toList,List.getElem?_eq_none (by rw[h5,List.length_map];exact Nat.le_refl _)]
   exact q
  ·refine Zu9 hh h4 ⟨oT,q1,q2⟩ st.set hd hf ?_ fun h' sb=>hQ h' s.toks (old sb)
   rw[List.getElem?_toArray,List.getElem?_eq_none (by rw[h2];simp)]
 self:=fun i s Q E st hQ=>by
  have hT:s.TypeIs (.ref I) "set_iterator":=by
   rcases st.md with⟨_,_,h3⟩ | ⟨_,_,_,_,_,_,_,h7⟩ | ⟨_,_,_,_,h4⟩
   ·exact⟨_,h3,rfl⟩
   ·exact⟨_,h7,rfl⟩
   ·exact⟨_,h4,rfl⟩
  refine wpAny_pyIter_slot hT Sl (wpAny_call_entry Sl hT Of ?_ (Jp _))
  show wpAny _ _ (ret (.ref I)) _ _ s
  exact wpAny_pure ⟨_,rfl,"set_iterator",_,hT,Xu.lookup,hQ⟩
theorem Y20{a:Addr}{o:Obj}{es:Array (Int×Value)}{ep:Nat}{t:SetTable}{Q:Value→Shared→Prop}(hc:o.cls= .type "set")(ho:s.heap.get? a=some o)(hd:o.data= .set es ep t)(hf:t.fits es.size=true)(ht:TOk t (Qo w))(hz:es.size≤sizeLine)
  (h:∀d h' I T vs,vs.Perm (es.toList.map (·.2))→ItSt w I a T o es ep t vs 0 h'→s.heap.objs.size≤I→a≠I→T≠I→(T=a∨s.heap.objs.size≤T)→(∀b u,s.heap.get? b=some u→h'.get? b=some u)→Q (.ref I) {s with heap:=h',drawn:=d}):
  wpAny (model prog w) A (pyIter (.ref a)) Q E s:=by
 have hT:s.TypeIs (.ref a) "set":=⟨o,ho,hc⟩
 have la:a<s.heap.objs.size:=Heap.lt_size ho
 refine wpAny_pyIter_slot hT F.slot_set_iter (wpAny_call_entry F.slot_set_iter hT Zt1 ?_ (F.args_set_iter_1 _))
 unfold Builtin.«frozenset.__iter__»
 refine wpAny_bind (wpAny_bind (wpAny_pure (wpAny_pure ?_)))
 refine wpAny_bind ?_
 unfold Builtin.Frozenset.sizeOf
 refine wpAny_bind (wpAny_setEntries_of ho hd hf (wpAny_pure ?_))
 refine wpAny_bind ?_
 unfold setDrawn
 refine wpAny_bind (wpAny_setState_of ho hd hf ?_)
 dsimp only
 unfold setsByText
 refine wpAny_bind (wpAny_bind (wpAny_askSetting (wpAny_pure ?_)))
 show wpAny _ _ (pure (!w.params.followText "set-order"&&(!t.plain&&decide (es.size >1)))) _ _ _
 refine wpAny_pure ?_
 have plainCase:(w.params.followText "set-order"=true∨(w.params.followText "set-order"=false∧(!t.plain&&decide (es.size >1))=false))→wpAny (model prog w) A.in1 (newFields "set_iterator" [rawInt 0,rawInt 0,.ref a,rawInt es.size,rawInt ep] >>=fun v=>ret v) (fun fin s'=>∃v,fin= .done (.ret v)∧∃T' r,s'.TypeIs v T'∧typeLookup (.type T') "__next__"=pure (some r)∧Q v s') E s:=by
  intro hm
  refine wpAny_bind ?_
  show wpAny _ _ (newObj (.type "set_iterator") (.fields #[rawInt 0,rawInt 0,.ref a,rawInt es.size,rawInt ep])) _ _ _
  refine wpAny_newObj_type (wpAny_pure ⟨_,rfl,"set_iterator",_,⟨_,Heap.get?_push_size _ rfl,rfl⟩,Xu.lookup,?_⟩)
  have g:(s.heap.push (itO (rawInt 0) 0 a es.size ep)).get? s.heap.objs.size=some (itO (rawInt 0) 0 a es.size ep):=Heap.get?_push_size _ rfl
  have g0:(s.heap.push (itO (rawInt 0) 0 a es.size ep)).get? a=some o:=Heap.get?_push_of_some _ ho
  have k:∀b u,s.heap.get? b=some u→(s.heap.push (itO (rawInt 0) 0 a es.size ep)).get? b=some u:=fun b u q=>Heap.get?_push_of_some _ q
  rcases hm with hm | ⟨hm,hp⟩
  ·exact h s.drawn _ s.heap.objs.size a _ ((Zc4 (w.params.setOrder a ep) es).map _) ⟨g0,.inl ⟨hm,rfl,g⟩⟩ (Nat.le_refl _) (Nat.ne_of_lt la) (Nat.ne_of_lt la) (.inl rfl) k
  ·exact h s.drawn _ s.heap.objs.size a _ (List.Perm.refl _) ⟨g0,.inr (.inl ⟨hm,hp,by rw[ht.led];unfold Qo;rw[hm];rfl,ht.rise,rfl,0,Cg ht.rise,g⟩)⟩ (Nat.le_refl _) (Nat.ne_of_lt la) (Nat.ne_of_lt la) (.inl rfl) k
 by_cases hm:w.params.followText "set-order"=true
 ·rw[hm]
  rw[if_neg (by simp)]
  refine wpAny_bind (wpAny_pure (wpAny_bind (wpAny_setEpoch_of ho hd hf ?_)))
  exact plainCase (.inl hm)
 ·have hm':w.params.followText "set-order"=false:=by cases e:w.params.followText "set-order" <;>simp_all
  rw[hm']
  cases hp:(!t.plain&&decide (es.size >1)) with
  | false=>
   rw[if_neg (by simp)]
   refine wpAny_bind (wpAny_pure (wpAny_bind (wpAny_setEpoch_of ho hd hf ?_)))
   exact plainCase (.inr ⟨hm',hp⟩)
  | true=>
   rw[if_pos (by rfl)]
   refine wpAny_bind (Ft _ _ _ _ (by simp) fun pl d pp=>?_)
   have pl_len:pl.length=es.size:=by rw[pp.length_eq,List.length_range]
   have pl_lt:∀k∈pl,k<es.size:=fun k hk=>List.mem_range.mp (pp.mem_iff.mp hk)
   refine wpAny_bind (wpAny_newTuple ?_ (by rw[List.length_map,pl_len];exact hz))
   generalize hoT:({cls:= .type "tuple",data:= .seq (pl.map fun(i:Nat)=>rawInt i).toArray}:Obj)=oT
   have gT:(s.heap.push oT).get? s.heap.objs.size=some oT:=Heap.get?_push_size _ (by rw[←hoT];rfl)
   have ho1:(s.heap.push oT).get? a=some o:=Heap.get?_push_of_some _ ho
   refine wpAny_bind (wpAny_setEpoch_of (s:={s with heap:=s.heap.push oT,drawn:=d}) ho1 hd hf ?_)
   refine wpAny_bind ?_
   show wpAny _ _ (newObj (.type "set_iterator") (.fields #[.ref s.heap.objs.size,rawInt 0,.ref a,rawInt es.size,rawInt ep])) _ _ _
   refine wpAny_newObj_type (wpAny_pure ⟨_,rfl,"set_iterator",_,⟨_,Heap.get?_push_size _ rfl,rfl⟩,Xu.lookup,?_⟩)
   have sz1:(s.heap.push oT).objs.size=s.heap.objs.size+1:=Heap.size_push _ _
   refine h d _ (s.heap.push oT).objs.size s.heap.objs.size (pl.map (fun k=>(es.getD k (0,.none)).2)) ?_ ⟨Heap.get?_push_of_some _ ho1,.inr (.inr ⟨pl,⟨oT,Heap.get?_push_of_some _ gT,by rw[←hoT],0,by rw[←hoT]⟩,rfl,pl_lt,Heap.get?_push_size _ rfl⟩)⟩ ?_ ?_ ?_ (.inr (Nat.le_refl _)) fun b u q=>Heap.get?_push_of_some _ (Heap.get?_push_of_some _ q)
   ·refine(pp.map _).trans ?_
    have e:(List.range es.size).map (fun k=>(es.getD k (0,.none)).2)=es.toList.map (·.2):=by
     apply List.ext_getElem?
     intro i
     have e1:es.toList[i]?=es[i]?:=Array.getElem?_toList
     rw[List.getElem?_map,List.getElem?_map,e1]
     by_cases hi:i<es.size
     ·rw[List.getElem?_range hi,Array.getElem?_eq_getElem hi]
      show some (es.getD i _).2=_
      rw[Array.getD_eq_getD_getElem?,Array.getElem?_eq_getElem hi];rfl
     ·rw[List.getElem?_eq_none (by rw[List.length_range];omega),Array.getElem?_eq_none (by omega)];rfl
    rw[e]
   ·rw[sz1];exact Nat.le_succ _
   ·rw[sz1];exact Nat.ne_of_lt (Nat.lt_succ_of_lt la)
   ·rw[sz1];exact Nat.ne_of_lt (Nat.lt_succ_self _)
end
end SW
namespace SW
open PySem PyProof.Rows PySem.W
section
variable{prog:Program}{w:World}{A:Around}{E:Value→Shared→Prop}{s:Shared}
theorem Zb8{a:Addr}{Q:Bool→Shared→Prop}(hT:s.TypeIs (.ref a) "set")(h:Q false s):wpAny (model prog w) A (Builtin.List.listLengthHint (.ref a)) Q E s:=by
 unfold Builtin.List.listLengthHint
 refine wpAny_bind (wpAny_specialOf hT PySem.F.slot_set_len.lookup ?_)
 generalize hid:("set.__len__":String)=id0
 wp_delta
 rw[show splitId id0=some ("set","__len__") from by subst hid;decide+kernel]
 subst hid
 refine wpAny_bind (wpAny_isInstance (T:="set") (b:=true) hT sub_set_self ?_)
 refine wpAny_ite_split (fun z=>absurd z (by decide)) fun _=>?_
 refine wpAny_ite_split (fun _=>wpAny_bind (wpAny_typeOf hT (wpAny_pure h))) fun z=>absurd (by decide+kernel) z
theorem Zn4{a S:Addr}{o:Obj}{es:Array (Int×Value)}{ep:Nat}{t:SetTable}{res:Value}{R:Result→Shared→Prop}(hh:A.handled=none)(hc:o.cls= .type "set")(ho:s.heap.get? a=some o)(hd:o.data= .set es ep t)(hf:t.fits es.size=true)(ht:TOk t (Qo w))(hz:es.size≤sizeLine)
  (hSa:S≠a) (c0:Nat) (hS:s.heap.get? S=some {cls:= .type "list",data:= .seq #[] c0})
  (hR:∀h' tk d (vs:List Value) c',vs.Perm (es.toList.map (·.2))→(∀b u,b≠S→s.heap.get? b=some u→h'.get? b=some u)→h'.get? S=some {cls:= .type "list",dict:=none,data:= .seq vs.toArray c',slots:=#[]}→R (.ok (.ret res)) {s with heap:=h',toks:=tk,drawn:=d}):
  wpAny (model prog w) A.in1 (Builtin.List.listExtendWith (.ref S) (.ref a) res)
   (fun fin s'=>match fin with | .done f=>R (.ok f) s' | .again c'=>c'.quiet=true∧codeAny (model prog w) A c' R s') (fun e s'=>R (.error e) s') s:=by
 have lS:S<s.heap.objs.size:=Heap.lt_size hS
 unfold Builtin.List.listExtendWith
 refine wpAny_bind (wpAny_typeOf (T:="set") ⟨o,ho,hc⟩ ?_)
 have q1:Builtin.List.listSameRef (.ref S) (.ref a)=false:=by simp[Builtin.List.listSameRef,hSa]
 have q2:(Value.type "set"==Value.type "list")=false:=by decide
 have q3:(Value.type "set"==Value.type "tuple")=false:=by decide
 simp only[q1,q2,q3,Bool.or_false,Bool.false_eq_true,if_false]
 refine wpAny_bind (Y20 hc ho hd hf ht hz fun d h1 I T vs pv st lI na nT lT k1=>?_)
 have nSI:S≠I:=Nat.ne_of_lt (Nat.lt_of_lt_of_le lS lI)
 have nST:S≠T:=by
  rcases lT with rfl | lT
  ·exact hSa
  ·exact Nat.ne_of_lt (Nat.lt_of_lt_of_le lS lT)
 have nf:S∉[I,a,T]:=by
  simp only[List.mem_cons,List.not_mem_nil,or_false,not_or]
  exact⟨nSI,hSa,nST⟩
 have W:=Ze3 (prog:=prog) (w:=w) (A:=A.in1) (vs:=vs) hh na nT hd hf
 have vl:vs.length≤sizeLine:=by rw[pv.length_eq,List.length_map,Array.length_toList];exact hz
 have hS1:h1.get? S=some {cls:= .type "list",data:= .seq #[] c0}:=k1 _ _ hS
 have key:∀(h2:Heap) (c1 tk:Nat),ItSt w I a T o es ep t vs 0 h2→(∀b u,b≠S→s.heap.get? b=some u→h2.get? b=some u)→h2.get? S=some {cls:= .type "list",data:= .seq #[] c1}→
   codeAny (model prog w) A (.builtin "list.extend.loop" ⟨[.ref S,.ref I,res],[]⟩) R {s with heap:=h2,toks:=tk,drawn:=d}:=by
  intro h2 c1 tk st2 k2 g2
  refine codeAny_extend_loopS W.toS vl S nf res vs.length 0 _ #[] c1 rfl (Nat.zero_le _) st2 g2 (ItemsOf.nil _) fun s' acc c' mv hS' hacc=>?_
  rw[Moved.eq_with mv]
  have ea:acc=vs.toArray:=by
   apply Array.ext'
   apply List.ext_getElem?
   intro i
   by_cases hi:i<acc.size
   ·have h3:acc.toList[i]?=some acc[i]:=by rw[Array.getElem?_toList,Array.getElem?_eq_getElem hi]
    rw[h3]
    exact(hacc.2 i acc[i] (Array.getElem?_eq_getElem hi)).symm
   ·rw[List.getElem?_eq_none (by rw[Array.length_toList];omega),List.getElem?_eq_none (by have:=hacc.1;show vs.length≤i;omega)]
  rw[ea] at hS'
  refine hR s'.heap s'.toks d vs c' pv (fun b u hb e=>mv.heap b u ?_ (k2 b u hb e)) hS'
  intro hm
  rcases List.mem_cons.mp hm with z | z
  ·exact hb z
  ·rw[List.mem_singleton.mp z] at e
   exact absurd (Heap.lt_size e) (Nat.not_lt.mpr lI)
 refine wpAny_bind (wpAny_holding (Zb8 ⟨o,k1 _ _ ho,hc⟩ ?_))
 refine wpAny_ite_split (fun _=>?_) fun _=>wpAny_pure ⟨plainId_quiet PySem.F.plain_extend_loop _,key h1 c0 _ st (fun b u _ e=>k1 b u e) hS1⟩
 refine wpAny_bind (wpAny_rule (wpAny_bind ?_))
 show wpAny _ _ (updateSeq S (·.push .none) >>=fun _=>updateSeq S (·.pop)) _ _ _
 refine wpAny_bind (wpAny_updateSeq hS1 rfl ?_)
 have g2:=Heap.get?_update_self (Obj.mapSeq (·.push Value.none)) hS1 rfl
 refine wpAny_updateSeq (hz:=by seq_fits) g2 rfl ?_
 have g3:=Heap.get?_update_self (Obj.mapSeq (·.pop)) g2 rfl
 have far:∀b u,b≠S→h1.get? b=some u→((h1.update S (Obj.mapSeq (·.push Value.none))).update S (Obj.mapSeq (·.pop))).get? b=some u:=fun b u hb e=>(Heap.get?_update_other _ _ (Ne.symm hb)).trans ((Heap.get?_update_other _ _ (Ne.symm hb)).trans e)
 refine wpAny_pure ⟨plainId_quiet PySem.F.plain_extend_loop _,key _ _ _ (W.frame 0 _ _ st fun b hb u e=>far b u (fun z=>nf (z ▸ hb)) e) (fun b u hb e=>far b u hb (k1 b u e)) g3⟩
theorem Cd{r:Value}{P:List Value→Prop}{R:List Value→Shared→Prop}
  (hx:∀R:Result→Shared→Prop,(∀h' tk d vs c',P vs→(∀b u,s.heap.get? b=some u→h'.get? b=some u)→h'.get? s.heap.objs.size=some {cls:= .type "list",dict:=none,data:= .seq vs.toArray c',slots:=#[]}→R (.ok (.ret (.ref s.heap.objs.size))) {s with heap:=h',toks:=tk,drawn:=d})→
   wpAny (model prog w) A.in1 (Builtin.List.listExtendWith (.ref s.heap.objs.size) r (.ref s.heap.objs.size))
    (fun fin s'=>match fin with | .done f=>R (.ok f) s' | .again c'=>c'.quiet=true∧codeAny (model prog w) A c' R s') (fun e s'=>R (.error e) s') {s with heap:=s.heap.push {cls:= .type "list",data:= .seq ([]:List Value).toArray}})
  (h:∀h' tk d vs,P vs→(∀b u,s.heap.get? b=some u→h'.get? b=some u)→s.heap.objs.size≤h'.objs.size→R vs {s with heap:=h',toks:=tk,drawn:=d}):
  wpAny (model prog w) A (collect r) R E s:=by
 unfold collect
 refine wpAny_bind (wpAny_runValue (codeAny_builtin entry_proto_collect' ?_))
 rw[Around.under_plainId PySem.F.plain_proto_collect _]
 show wpAny _ A.in1 (newList [] >>=fun l=>again (.builtin "list.__iadd__" ⟨[l,r],[]⟩)) _ _ s
 refine wpAny_bind (wpAny_newObj_type (wpAny_pure ⟨plainId_quiet PySem.F.plain_list_iadd _,codeAny_builtin entry_list_iadd' ?_⟩))
 rw[Around.under_plainId PySem.F.plain_list_iadd _]
 have fin:∀s2:Shared,(∃h' tk d,∃vs:List Value,∃c',P vs∧(∀b u,s.heap.get? b=some u→h'.get? b=some u)∧h'.get? s.heap.objs.size=some {cls:= .type "list",dict:=none,data:= .seq vs.toArray c',slots:=#[]}∧s2={s with heap:=h',toks:=tk,drawn:=d})→wpAny (model prog w) A (load s.heap.objs.size >>=fun o=>match o.data with | .seq xs _=>pure xs.toList | _=>unsupported "internal:collect") R E s2:=by
  rintro s2 ⟨h',tk,d,vs,c',pv,k,g,rfl⟩
  exact wpAny_bind (wpAny_load g (wpAny_pure (h h' tk d vs pv k (Nat.le_of_lt (Heap.lt_size g)))))
 have key:=hx (fun q s2=>q= .ok (.ret (.ref s.heap.objs.size))∧∃h' tk d,∃vs:List Value,∃c',P vs∧(∀b u,s.heap.get? b=some u→h'.get? b=some u)∧h'.get? s.heap.objs.size=some {cls:= .type "list",dict:=none,data:= .seq vs.toArray c',slots:=#[]}∧s2={s with heap:=h',toks:=tk,drawn:=d})
  (fun h' tk d vs c' pv k g=>⟨rfl,h',tk,d,vs,c',pv,k,g,rfl⟩)
 show wpAny _ A.in1 (Builtin.List.listExtendWith (.ref s.heap.objs.size) r (.ref s.heap.objs.size)) _ _ _
 refine wpAny_mono key (fun f s2 x=>?_) fun e s2 x=>by cases x.1
 cases f with
 | done f=>
  obtain⟨e,x⟩:=x
  cases e
  exact fin s2 x
 | again c1=>
  refine⟨x.1,codeAny_mono x.2 fun q s3 y=>?_⟩
  obtain⟨rfl,y⟩:=y
  exact fin s3 y
theorem Z50{h:Heap}{a:Addr}{vs:List Value}{n:Nat}(ho:h.get? a=some (seqObj "list" vs.toArray n))(out:Array Value):(∃c,(sortedHeap h a vs out).get? a=some (seqObj "list" out c))∧∀b u,b≠a→h.get? b=some u→(sortedHeap h a vs out).get? b=some u:=by
 have la:=Heap.lt_size ho
 constructor
 ·have h1:=get?_update_seq ho (fun _=>(#[]:Array Value))
  have h2:(((h.update a (Obj.mapSeq fun _=>#[])).push (seqObj "tuple" vs.toArray 0)).push (seqObj "list" #[] 0)).get? a=_:=Heap.get?_push_of_some _ (Heap.get?_push_of_some _ h1)
  exact⟨_,get?_update_seq h2 (fun _=>out)⟩
 ·intro b u hb e
  unfold sortedHeap
  rw[Heap.get?_update_other _ _ (Ne.symm hb)]
  refine Heap.get?_push_of_some _ (Heap.get?_push_of_some _ ?_)
  rw[Heap.get?_update_other _ _ (Ne.symm hb)]
  exact e
theorem Qs{r:Value}{P:List Value→List Int→Prop}{Q:Value→Shared→Prop}
  (hx:∀R:Result→Shared→Prop,(∀h' tk d vs c',(∃ns,P vs ns)→(∀b u,s.heap.get? b=some u→h'.get? b=some u)→h'.get? s.heap.objs.size=some {cls:= .type "list",dict:=none,data:= .seq vs.toArray c',slots:=#[]}→R (.ok (.ret (.ref s.heap.objs.size))) {s with heap:=h',toks:=tk,drawn:=d})→
   wpAny (model prog w) A.in1.in1 (Builtin.List.listExtendWith (.ref s.heap.objs.size) r (.ref s.heap.objs.size))
    (fun fin s'=>match fin with | .done f=>R (.ok f) s' | .again c'=>c'.quiet=true∧codeAny (model prog w) A.in1 c' R s') (fun e s'=>R (.error e) s') {s with heap:=s.heap.push {cls:= .type "list",data:= .seq ([]:List Value).toArray}})
  (hP:∀vs ns,P vs ns→IntsAre vs ns∧vs.length<64)
  (h:∀h' tk d D c (out:List Value) ns ns' vs,(∀b u,s.heap.get? b=some u→h'.get? b=some u)→s.heap.objs.size≤D→h'.get? D=some {cls:= .type "list",dict:=none,data:= .seq out.toArray c,slots:=#[]}→P vs ns→IntsAre out ns'→ns'.Perm ns→ns'.Pairwise (·≤·)→Q (.ref D) {s with heap:=h',toks:=tk,drawn:=d}):
  wpAny (model prog w) A (call (.builtin "sorted") [r]) Q E s:=by
 refine Calls.call_function_entry kind_sorted plain_sorted entry_sorted (args_sorted1 _) ?_
 unfold Builtin.«sorted»
 refine wpAny_bind (m:=checkCount "sorted" 1 1 _) (wpAny_pure ?_)
 refine wpAny_bind (Cd hx fun h1 tk d vs p0 k1 hs=>?_)
 obtain⟨ns,p1⟩:=p0
 obtain⟨i1,l1⟩:=hP vs ns p1
 refine wpAny_bind (wpAny_newList ?_ (by rw[sizeLine_eq];omega))
 have g1:(h1.push (seqObj "list" vs.toArray 0)).get? h1.objs.size=some (seqObj "list" vs.toArray 0):=Heap.get?_push_size _ rfl
 refine wpAny_bind (wpAny_holding (wpAny_call_entry slot_list_sort ⟨_,g1,rfl⟩ entry_list_sort (list_sort_tree g1 i1 l1 fun out ns' a1 a2 a3=>⟨_,rfl,?_⟩) (args_list_sort _)))
 obtain⟨⟨c,g2⟩,k2⟩:=Z50 g1 out
 have ea:out=out.toList.toArray:=by simp
 refine wpAny_pure ⟨_,rfl,h _ tk d h1.objs.size c out.toList ns ns' vs (fun b u e=>k2 b u (Nat.ne_of_lt (Heap.lt_size (k1 b u e))) (Heap.get?_push_of_some _ (k1 b u e))) hs ?_ p1 a1 a2 a3⟩
 rw[←ea]
 exact g2
end
end SW
namespace SW
open PySem PyProof.Rows
theorem Z93{vs vs':List Value}(p:vs'.Perm vs):∀{ns:List Int},IntsAre vs ns→∃ns',ns'.Perm ns∧IntsAre vs' ns':=by
 induction p with
 | nil=>intro ns h;exact⟨ns,List.Perm.refl _,h⟩
 | cons x p ih=>
  intro ns h
  cases h with
  | cons n t r=>
   obtain⟨ns',a,b⟩:=ih r
   exact⟨_,a.cons _,.cons n t b⟩
 | swap x y l=>
  intro ns h
  cases h with
  | cons n t r=>
   cases r with
   | cons m u r=>exact⟨_,List.Perm.swap _ _ _,.cons m u (.cons n t r)⟩
 | trans p q ih1 ih2=>
  intro ns h
  obtain⟨k1,a1,b1⟩:=ih2 h
  obtain⟨k2,a2,b2⟩:=ih1 b1
  exact⟨k2,a2.trans a1,b2⟩
end SW
namespace L3
open PySem PySem.Spec PyProof.Rows L2
section
variable{X:Cx}{pins:List (Addr×Obj)}{σ:L2.St}{H:Hp}{s:Shared}
theorem drew(I:Inv X pins σ H s)(d:Drawn):Inv X pins σ H {s with drawn:=d}:=⟨I.ok,I.os,I.bare,I.base,I.loc,I.cell,I.free,I.freeC,I.pin,I.hok,I.len⟩
def Ws(P:Program)(w:World)(a:Addr)(ks:List Key)(h:Heap):Prop:=∃o,h.get? a=some o∧SW.SetO (Zz P w) (SW.Qo w) o ks
theorem Ws.stay{P:Program}{w:World}{a:Addr}{ks:List Key}{h h':Heap}(x:Ws P w a ks h)(k:∀o,h.get? a=some o→h'.get? a=some o):Ws P w a ks h':=by
 obtain⟨o,ho,r⟩:=x
 exact⟨o,k _ ho,r⟩
theorem Z88(hc:X.calm=true):Ww X (.type "set") (fun xs H Q=>∃(a:Addr) (ks:List Key),xs=[V.ref a]∧SqL X.K H a (ks.map kV)∧ks.length+1<scanBound∧∀p ks',H p=none→ks'.Nodup→ks'.length≤ks.length→(∀k,k∈ks'↔k∈ks)→Q (.ref p) (upd H p (.ext (Ws X.prog X.w p ks')))):=by
 intro pins s σ H xs us Q I r h
 obtain⟨a,ks,rfl,hx,hz,q⟩:=h
 obtain⟨u,rfl,ru⟩:=Sv r
 cases ru
 obtain⟨its,rv,p,_⟩:=I.list hx
 have hl:its.length=ks.length:=by have:=rv.length;rw[List.length_map] at this;exact this.symm
 refine SW.Ze7 (knd:=Zz X.prog X.w) (key:=fun i=>ks.getD i (.inl 0)) (I.ok.hd hc) p.isList (fun i v e=>?_) (by rw[List.size_toArray];omega) fun h' tk o ks' ho hS hlk hm k=>?_
 ·rw[List.getElem?_toArray] at e
  have hi:i<ks.length:=by have:=(List.getElem?_eq_some_iff.mp e).1;omega
  have e1:(ks.map kV)[i]?=some (kV ks[i]):=by rw[List.getElem?_map,List.getElem?_eq_getElem hi];rfl
  obtain⟨u,e2,r2⟩:=rv.get e1
  rw[e] at e2
  cases e2
  have e3:ks.getD i (.inl 0)=ks[i]:=by rw[List.getD_eq_getElem?_getD,List.getElem?_eq_getElem hi];rfl
  have hk:Jt ks[i] v=true:=Oq (P:=X.prog) (w:=X.w) r2
  refine⟨by show Jt (ks.getD i (.inl 0)) v=true;rw[e3];exact hk,?_⟩
  rcases Zr hk with⟨i,t,_,rfl⟩ | ⟨x,t,_,rfl⟩<;>rfl
 ·have k':∀b u,s.heap.get? b=some u→h'.get? b=some u:=fun b u e=>k b u (Heap.lt_size e) e
  refine⟨.ref _,_,I.laid (a:=s.heap.objs.size) (o:= .ext (Ws X.prog X.w s.heap.objs.size ks')) (t':=tk) k' (Nat.le_refl _) ⟨⟨o,ho,hS⟩,⟨o,ho⟩,fun h1 h2 x k=>x.stay k⟩,rfl,q _ ks' (I.hok.fresh (Nat.le_refl _)) hS.nd (by rw[List.size_toArray,hl] at hlk;exact hlk) fun k=>?_⟩
  rw[hm,List.size_toArray,hl,List.mem_iff_getElem]
  constructor
  ·rintro⟨j,hj,e⟩
   exact⟨j,hj,by rw[←e,List.getD_eq_getElem?_getD,List.getElem?_eq_getElem hj];rfl⟩
  ·rintro⟨j,hj,e⟩
   exact⟨j,hj,by rw[←e,List.getD_eq_getElem?_getD,List.getElem?_eq_getElem hj];rfl⟩
theorem G3{P:Program}{w:World}:∀{ns:List Int} {l:List (Int×Value)},SW.KeysOf (Zz P w) (ns.map Sum.inl) l→IntsAre (l.map (·.2)) ns
 | [],l,h=>by cases h;exact .nil
 | n::ns,l,h=>by
  cases h with
  | cons h r=>
   rename_i e l
   rcases Zr (k:=Sum.inl n) (v:=e.2) h with⟨i,t,q,hv⟩ | ⟨x,t,q,hv⟩
   ·cases q
    rw[List.map_cons,hv]
    exact .cons _ _ (G3 r)
   ·cases q
theorem Xt:∀{vs:List Value} {ns:List Int},IntsAre vs ns→Vals (ns.map V.int) vs
 | _,_,.nil=> .nil
 | _,_,.cons n t r=> .cons ⟨t,rfl⟩ (Xt r)
theorem Z67:∀{vs:List Value} {ns:List Int},vs.length=ns.length→(∀(j:Nat) v,vs[j]?=some v→∃n t,ns[j]?=some n∧v=Value.int n t)→IntsAre vs ns
 | [],[],_,_=> .nil
 | v::vs,n::ns,hl,h=>by
  obtain⟨m,t,e1,e2⟩:=h 0 v rfl
  cases e1
  rw[e2]
  exact .cons _ _ (Z67 (by simpa using hl) fun j v e=>by simpa using h (j+1) v (by simpa using e))
theorem Zl5(I:Inv X pins σ H s){p:Addr}{φ:Heap→Prop}(h:H p=some (.ext φ)):φ s.heap:=(I.hok p _ h).1
def Zl7(P:Program)(w:World):List V→Hp→VK→Prop:=fun xs H Q=>∃(p:Addr) (ns:List Int),xs=[V.ref p]∧H p=some (.ext (Ws P w p (ns.map Sum.inl)))∧ns.length<64∧∀q (ms:List Int),H q=none→ms.Perm ns→ms.Pairwise (·≤·)→Q (.ref q) (upd H q (.lst (ms.map V.int)))
theorem J0(hc:X.calm=true):Ww X (.builtin "sorted") (Zl7 X.prog X.w):=by
 intro pins s σ H xs us Q I r h
 obtain⟨p,ns,rfl,hx,hz,q⟩:=h
 obtain⟨u,rfl,ru⟩:=Sv r
 cases ru
 obtain⟨o,ho,hS⟩:=Zl5 I hx
 obtain⟨es,ep,t,hd,he,hks,hf,ht⟩:=hS.dat
 have hi:=G3 hks
 have hl:es.size=ns.length:=by have:=hks.len;rw[List.length_map,Array.length_toList] at this;exact this.symm
 refine SW.Qs (P:=fun vs ns'=>ns'.Perm ns∧IntsAre vs ns') (fun R hR=>?_) (fun vs ns' ⟨h1,h2⟩=>⟨h2,?_⟩) fun h' tk d D c out n1 n2 vs k lD g ⟨a1,a2⟩ b1 b2 b3=>?_
 ·have hS0:(s.heap.push {cls:= .type "list",data:= .seq ([]:List Value).toArray}).get? s.heap.objs.size=some {cls:= .type "list",data:= .seq #[] 0}:=Heap.get?_push_size _ rfl
  refine SW.Zn4 (A:=X.A.in1) (s:={s with heap:=s.heap.push {cls:= .type "list",data:= .seq ([]:List Value).toArray}}) (I.ok.hd hc) hS.ex.1 (Heap.get?_push_of_some _ ho) hd hf ht (by rw[hl,sizeLine_eq];omega) (Nat.ne_of_gt (Heap.lt_size ho)) 0 hS0 fun h' tk d vs c' pv k g=>?_
  obtain⟨ns',q1,q2⟩:=SW.Z93 pv hi
  exact hR h' tk d vs c' ⟨ns',q1,q2⟩ (fun b u e=>k b u (Nat.ne_of_lt (Heap.lt_size e)) (Heap.get?_push_of_some _ e)) g
 ·rw[h2.length,h1.length_eq];exact hz
 ·have hp:n2.Perm ns:=b2.trans a1
  refine⟨.ref D,_,drew (I.laid (a:=D) (o:= .lst (n2.map V.int)) (t':=tk) k lD ⟨?_,out,c,Xt b1,g⟩) d,rfl,q D n2 (I.hok.fresh lD) hp b3⟩
  rw[List.length_map,hp.length_eq,sizeLine_eq];omega
theorem Nu(hc:X.calm=true):Ww X (.builtin "sorted") (fun xs H Q=>∃(p:Addr) (kvs:List (Key×V)) (ns:List Int),xs=[V.ref p]∧H p=some (.dK kvs)∧kvs.map (·.1)=ns.map Sum.inl∧ns.length<64∧∀q (ms:List Int),H q=none→ms.Perm ns→ms.Pairwise (·≤·)→Q (.ref q) (upd H q (.lst (ms.map V.int)))):=by
 intro pins s σ H xs us Q I r h
 obtain⟨p,kvs,ns,rfl,hx,hkn,hz,q⟩:=h
 obtain⟨u,rfl,ru⟩:=Sv r
 cases ru
 obtain⟨lz,lo,vs,kv,hD⟩:=I.hok p _ hx
 obtain⟨ep,hat⟩:=hD.dictAt
 have hkl:∀{a:List (Key×V)} {b:List (Key×Value)},KV a b→b.map (·.1)=a.map (·.1):=by
  intro a b h
  induction h with
  | nil=>rfl
  | cons e r ih=>rw[List.map_cons,List.map_cons,ih,e.1]
 have hv:vs.map (·.1)=ns.map Sum.inl:=(hkl kv).trans hkn
 have hl:vs.length=ns.length:=by have:=congrArg List.length hv;rw[List.length_map,List.length_map] at this;exact this
 have la:p<s.heap.objs.size:=hat.lt_size
 refine SW.Qs (P:=fun us ns'=>ns'=ns∧IntsAre us ns') (fun R hR=>?_) (fun us ns' ⟨h1,h2⟩=>⟨h2,?_⟩) fun h' tk d D c out n1 n2 us k lD g ⟨a1,a2⟩ b1 b2 b3=>?_
 ·have hS0:(s.heap.push {cls:= .type "list",data:= .seq ([]:List Value).toArray}).get? s.heap.objs.size=some {cls:= .type "list",data:= .seq #[] 0}:=Heap.get?_push_size _ rfl
  refine PySem.W.kdl_extend (A:=X.A.in1) (s:={s with heap:=s.heap.push {cls:= .type "list",data:= .seq ([]:List Value).toArray}}) (PySem.W.kdl_dict (knd:=Zz X.prog X.w) (kvs:=vs) (ep:=ep) lo) (I.ok.hd hc) (hat.push _) s.heap.objs.size (Nat.ne_of_gt la) (Nat.ne_of_gt la) (.ref s.heap.objs.size) 0 hS0 (fun h' tk acc c' k g hacc=>?_) (by rw[hl,sizeLine_eq];omega)
  have ha:acc=acc.toList.toArray:=by simp
  rw[ha] at g
  refine hR h' tk s.drawn acc.toList c' ⟨ns,rfl,?_⟩ (fun b u e=>k b u (Nat.ne_of_lt (Heap.lt_size e)) (Heap.get?_push_of_some _ e)) g
  have hlen:acc.toList.length=ns.length:=by rw[Array.length_toList,hacc.1,hl]
  refine Z67 hlen fun j v e=>?_
  obtain⟨k,x,e1,e2⟩:=hacc.2 j v (by rw[←Array.getElem?_toList];exact e)
  have e3:(vs.map (·.1))[j]?=some k:=by rw[List.getElem?_map,e1];rfl
  rw[hv,List.getElem?_map] at e3
  obtain⟨n,e4,e5⟩:=Option.map_eq_some_iff.mp e3
  subst e5
  rcases Zr (k:=Sum.inl n) (v:=v) e2 with⟨i,t,z,hv⟩ | ⟨x,t,z,hv⟩
  ·cases z;exact⟨n,t,e4,hv⟩
  ·cases z
 ·rw[h2.length,h1];exact hz
 ·subst a1
  refine⟨.ref D,_,drew (I.laid (a:=D) (o:= .lst (n2.map V.int)) (t':=tk) k lD ⟨?_,out,c,Xt b1,g⟩) d,rfl,q D n2 (I.hok.fresh lD) b2 b3⟩
  rw[List.length_map,b2.length_eq,sizeLine_eq];omega
def Zx6(P:Program)(w:World):List V→Hp→VK→Prop:=fun xs H Q=>∃(p:Addr) (ks:List Key),xs=[V.ref p]∧H p=some (.ext (Ws P w p ks))∧Q (.int ks.length) H
theorem Z00:Ww X (.builtin "len") (Zx6 X.prog X.w):=by
 intro pins s σ H xs us Q I r h
 obtain⟨p,ks,rfl,hx,q⟩:=h
 obtain⟨u,rfl,ru⟩:=Sv r
 cases ru
 obtain⟨o,ho,hS⟩:=Zl5 I hx
 obtain⟨es,ep,t,hd,he,hks,hf,ht⟩:=hS.dat
 have hl:es.size=ks.length:=by have:=hks.len;rw[Array.length_toList] at this;exact this.symm
 have hb:ks.length<scanBound:=hS.sm
 have h4:scanBound=4096:=rfl
 refine call_len_set ho hS.ex hd hf (Int.lt_of_lt_of_le (show(es.size:Int)<4096 by omega) (by decide)) ?_
 rw[hl]
 exact⟨.int _,H,I.tok _,⟨_,rfl⟩,q⟩
end
section
variable{X:Cx}{pins:List (Addr×Obj)}{σ:L2.St}{H:Hp}{s:Shared}
theorem N5:Ww X (.builtin "sorted") (fun xs H Q=>∃(p:Addr) (ns:List Int),xs=[V.ref p]∧SqL X.K H p (ns.map V.int)∧ns.length<64∧∀q (ms:List Int),H q=none→ms.Perm ns→ms.Pairwise (·≤·)→Q (.ref q) (upd H q (.lst (ms.map V.int)))):=by
 intro pins s σ H xs us Q I r h
 obtain⟨p,ns,rfl,sq,hz,q⟩:=h
 obtain⟨u,rfl,ru⟩:=Sv r
 cases ru
 obtain⟨its,r',pl,hz2⟩:=I.list sq
 have hi:=C1 r'
 have hl:=hi.length
 refine sorted_ints pl.isList hi (by omega) fun out ms a1 a2 a3=>?_
 obtain⟨e,g⟩:=sortedAll_at s.heap its out
 have eo:out=out.toList.toArray:=by simp
 rw[eo] at g
 have lD:s.heap.objs.size≤s.heap.objs.size+1:=Nat.le_succ _
 refine⟨.ref (s.heap.objs.size+1),_,I.laid (a:=s.heap.objs.size+1) (o:= .lst (ms.map V.int)) (t':=s.toks) (fun b u e=>sortedAll_old (out:=out) e) lD ⟨?_,out.toList,e,Xt a1,by rw[←eo] at g ⊢;exact g⟩,rfl,q _ ms (I.hok.fresh lD) a2 a3⟩
 rw[List.length_map,a2.length_eq,sizeLine_eq];omega
end
end L3
namespace MP
open PySem PySem.Spec
noncomputable def lex(p q:Int×Int):Bool:=decide (p.1<q.1) || (decide (p.1=q.1)&&decide (p.2<q.2))
def At(h:Heap)(v:Value)(p:Int×Int):Prop:=∃a o t1 t2 n,v= .ref a∧h.get? a=some o∧o.cls= .type "tuple"∧o.data= .seq #[.int p.1 t1,.int p.2 t2] n
section
variable{prog:Program}{w:World}{A:Around}{E:Value→Shared→Prop}{s:Shared}
theorem Zk4{i j:Int}{t u:Tok}{Q:Value→Shared→Prop}(h:Q (.bool (decide (i<j))) s):wpAny (model prog w) A (richCompare .Lt (.int i t) (.int j u)) Q E s:=
 richCompare_gives (op:= .Lt) (typeIs_int s _ t) (typeIs_int s _ u) F.slot_int_lt F.entry_int_lt (F.args_int_lt_2 _ _) (gives_int_lt _ _ t u) (fun x=>nomatch x) h
theorem Zm0{a b:Addr}{oa ob:Obj}{p q:Int×Int}{t1 t2 u1 u2:Tok}{n k:Nat}{P:PySem.Fin→Shared→Prop}(ha:s.heap.get? a=some oa)(da:oa.data= .seq #[.int p.1 t1,.int p.2 t2] n)(hb:s.heap.get? b=some ob)(cb:ob.cls= .type "tuple")(db:ob.data= .seq #[.int q.1 u1,.int q.2 u2] k)
  (h:P (.done (.ret (.bool (lex p q)))) s):wpAny (model prog w) A (Builtin.«tuple.__lt__» ⟨[.ref a,.ref b],[]⟩) P E s:=by
 have hT:s.TypeIs (.ref b) "tuple":=⟨_,hb,cb⟩
 show wpAny _ _ (isInstance (.ref b) (.type "tuple") >>=_) _ _ s
 refine wpAny_bind (wpAny_isInstance hT isSubtype_tuple_tuple ?_)
 simp only[Bool.not_true,Bool.false_eq_true,if_false]
 refine wpAny_bind (wpAny_tupleItemsOf ha da (wpAny_bind (wpAny_tupleItemsOf hb db (wpAny_bind ?_))))
 refine wpAny_forIn_list _ (fun rest r s'=>r.1=none∧s'=s∧((rest=[(.int p.1 t1,.int q.1 u1),(.int p.2 t2,.int q.2 u2)])∨(rest=[(.int p.2 t2,.int q.2 u2)]∧p.1=q.1)∨(rest=[]∧p=q))) _ ?_ ?_ _ _ ⟨rfl,rfl,.inl rfl⟩
 ·rintro⟨u,v⟩ rest r s' ⟨hr,rfl,hz⟩
  rcases hz with hz | ⟨hz,e1⟩ | ⟨hz,_⟩
  ·cases hz
   refine wpAny_bind (wpAny_eqBool_int ?_)
   by_cases e:p.1=q.1
   ·rw[beq_iff_eq.mpr e]
    simp only[Bool.not_true,Bool.false_eq_true,if_false]
    exact wpAny_pure (by simp[e])
   ·rw[beq_eq_false_iff_ne.mpr e]
    simp only[Bool.not_false,if_true]
    have hf:lex p q=decide (p.1<q.1):=by unfold lex;simp[e]
    rw[hf] at h
    refine wpAny_bind (wpAny_rule (wpAny_bind (Zk4 ?_)))
    exact wpAny_bind (wpAny_pure (wpAny_pure (wpAny_pure h)))
  ·cases hz
   refine wpAny_bind (wpAny_eqBool_int ?_)
   by_cases e:p.2=q.2
   ·rw[beq_iff_eq.mpr e]
    simp only[Bool.not_true,Bool.false_eq_true,if_false]
    exact wpAny_pure (by simp[Prod.ext e1 e])
   ·rw[beq_eq_false_iff_ne.mpr e]
    simp only[Bool.not_false,if_true]
    have hf:lex p q=decide (p.2<q.2):=by unfold lex;simp[e1]
    rw[hf] at h
    refine wpAny_bind (wpAny_rule (wpAny_bind (Zk4 ?_)))
    exact wpAny_bind (wpAny_pure (wpAny_pure (wpAny_pure h)))
  ·cases hz
 ·rintro⟨r1,r2⟩ s' ⟨hr,rfl,hz⟩
  simp only at hr
  subst hr
  rcases hz with hz | ⟨hz,_⟩ | ⟨_,rfl⟩
  ·cases hz
  ·cases hz
  ·have hf:lex p p=false:=by unfold lex;simp
   rw[hf] at h
   exact wpAny_pure h
theorem Zr4{u v:Value}{p q:Int×Int}{Q:Value→Shared→Prop}(hu:A.units<cLine)(h1:At s.heap u p)(h2:At s.heap v q)(h:Q (.bool (lex p q)) s):wpAny (model prog w) A (richCompare .Lt u v) Q E s:=by
 obtain⟨a,oa,t1,t2,n,rfl,ha,ca,da⟩:=h1
 obtain⟨b,ob,u1,u2,k,rfl,hb,cb,db⟩:=h2
 exact wpAny_richCompare_same_room (op:= .Lt) ⟨_,ha,ca⟩ ⟨_,hb,cb⟩ F.slot_tuple_lt (wpAny_call_entry F.slot_tuple_lt ⟨_,ha,ca⟩ F.entry_tuple_lt (Zm0 ha da hb cb db ⟨_,rfl,(fun e=>nomatch e),h⟩) (F.args_tuple_lt_2 _ _)) hu
end
theorem Z81(p:Int×Int):lex p p=false:=by unfold lex;simp
theorem Y10{p q r:Int×Int}(h1:lex p q=false)(h2:lex r q=true):lex p r=false:=by
 unfold lex at *
 simp only[Bool.or_eq_false_iff,Bool.and_eq_false_iff,Bool.or_eq_true,Bool.and_eq_true,decide_eq_true_eq,decide_eq_false_iff_not] at *
 omega
section
variable{prog:Program}{w:World}{A:Around}{R:Result→Shared→Prop}{I S:Addr}{fp wr:List Addr}{n N0:Nat}{V:Nat→Value→Prop}{St:Nat→Heap→Prop}{h0:Heap}{ps:Nat→Int×Int}
def Old(N0:Nat)(h0 h:Heap):Prop:=∀b o,b<N0→h0.get? b=some o→h.get? b=some o
noncomputable def tmp(v:Value)(c:Nat):Obj:={cls:= .type "list",dict:=none,data:= .seq #[v,v] c,slots:=#[]}
noncomputable def tmpE:Obj:={cls:= .type "list",data:= .seq #[]}
theorem nm:(toString "min"++toString ".loop":String)="min.loop":=by decide
theorem walk(W:Walks prog w A.in1 I fp wr n V St)(hV:∀i v h,Old N0 h0 h→V i v→At h v (ps i))(hS:S∉fp)(hw:∀b,b<N0→b∉wr∧b≠S)(hu:A.in1.units<cLine):
  ∀(k j m:Nat) (s:Shared) (vb:Value) (c:Nat),n - (j+1)=k→j+1≤n→St (j+1) s.heap→Old N0 h0 s.heap→V m vb→m≤j→(∀i,i≤j→lex (ps i) (ps m)=false)→s.heap.get? S=some (tmp vb c)→
  (∀v m h' tk,V m v→m<n→(∀i,i<n→lex (ps i) (ps m)=false)→(∀b o,b∉wr→b≠S→s.heap.get? b=some o→h'.get? b=some o)→R (.ok (.ret v)) {s with heap:=h',toks:=tk})→
  codeAny (model prog w) A (.builtin "min.loop" ⟨[.ref I,.none,.ref S],[]⟩) R s:=by
 have sw:S∉wr:=fun z=>hS (W.sub S z)
 intro k
 induction k with
 | zero=>
  intro j m s vb c e1 e2 st old hv hm best hs hR
  have en:j+1=n:=by omega
  refine codeAny_builtin F.entry_min_loop ?_;rw[Around.under_plainId F.plain_min_loop _];show wpAny _ A.in1 (seqItems? (.ref S) >>=_) _ _ s
  refine wpAny_bind (wpAny_seqItems hs rfl ?_);show wpAny _ A.in1 (tryCatch (pyNext (.ref I)) _ >>=_) _ _ s
  refine wpAny_bind (wpAny_tryCatch (W.done s _ _ (en ▸ st) fun h' tk kp=>?_))
  have hs2:=kp S _ sw hs
  show wpAny _ A.in1 (updateSeq S (fun _=>#[]) >>=_) _ _ _;refine wpAny_bind ?_
  exact wpAny_updateSeq hs2 rfl (wpAny_bind (wpAny_letGo (wpAny_pure (hR vb m _ tk hv (by omega) (fun i hi=>best i (by omega)) fun b o h1 h2 e=>(Heap.get?_update_other _ _ (Ne.symm h2)).trans (kp b o h1 e)))))
 | succ k ih=>
  intro j m s vb c e1 e2 st old hv hm best hs hR
  have lt:j+1<n:=by omega
  refine codeAny_builtin F.entry_min_loop ?_;rw[Around.under_plainId F.plain_min_loop _];show wpAny _ A.in1 (seqItems? (.ref S) >>=_) _ _ s
  refine wpAny_bind (wpAny_seqItems hs rfl ?_);show wpAny _ A.in1 (tryCatch (pyNext (.ref I)) _ >>=_) _ _ s
  refine wpAny_bind (wpAny_tryCatch (W.item (j+1) s _ _ lt st fun v h' tk hP st2 kp=>?_))
  have hs2:=kp S _ sw hs
  have old2:Old N0 h0 h':=fun b o hb e=>kp b o (hw b hb).1 (old b o hb e)
  show wpAny _ A.in1 (tryCatch (holding [v,v] (richCompare .Lt v vb >>=_)) _ >>=_) _ _ _
  refine wpAny_bind (wpAny_tryCatch (wpAny_holding (wpAny_bind (Zr4 hu (hV _ _ _ old2 hP) (hV _ _ _ old2 hv) (wpAny_bind (wpAny_holding (wpAny_truthy_bool (wpAny_bind (wpAny_letGo (wpAny_pure ?_))))))))))
  cases hb:lex (ps (j+1)) (ps m) with
  | true=>
   simp only[if_true]
   refine wpAny_bind ?_;refine wpAny_updateSeq hs2 rfl (wpAny_bind (wpAny_letGo ?_));rw[nm]
   have upd:∀b o,b≠S→h'.get? b=some o→(h'.update S (Obj.mapSeq fun _=>#[v,v])).get? b=some o:=fun b o hb e=>(Heap.get?_update_other _ _ (Ne.symm hb)).trans e
   refine wpAny_pure ⟨plainId_quiet F.plain_min_loop _,ih (j+1) (j+1) _ v _ (by omega) lt (W.frame _ _ _ st2 fun b hf o e=>upd b o (fun z=>hS (z ▸ hf)) e) (fun b o hb e=>upd b o (hw b hb).2 (old2 b o hb e)) hP (Nat.le_refl _) (fun i hi=>?_) (Heap.get?_update_self _ hs2 rfl) fun v' m' h2 tk2 a1 a2 a3 a4=>hR v' m' h2 tk2 a1 a2 a3 fun b o h1 h2 e=>a4 b o h1 h2 (upd b o h2 (kp b o h1 e))⟩
   by_cases ei:i=j+1
   ·rw[ei];exact Z81 _
   ·exact Y10 (best i (by omega)) hb
  | false=>
   simp only[Bool.false_eq_true,if_false]
   refine wpAny_bind (wpAny_letGo ?_);rw[nm]
   refine wpAny_pure ⟨plainId_quiet F.plain_min_loop _,ih (j+1) m _ vb c (by omega) lt st2 old2 hv (by omega) (fun i hi=>?_) hs2 fun v' m' h2 tk2 a1 a2 a3 a4=>hR v' m' h2 tk2 a1 a2 a3 fun b o h1 h2 e=>a4 b o h1 h2 (kp b o h1 e)⟩
   by_cases ei:i=j+1
   ·rw[ei];exact hb
   ·exact best i (by omega)
theorem Z11{E:Value→Shared→Prop}{s:Shared}{l:Addr}{vs:List Value}{Q:Value→Shared→Prop}(hh:A.in1.handled=none)(hu:A.in1.units<cLine)(hl:s.heap.IsList l vs.toArray)(hne:0<vs.length)(hp:∀(i:Nat) v,vs[i]?=some v→At s.heap v (ps i))
  (h:∀v (m:Nat) h' tk,vs[m]?=some v→(∀i,i<vs.length→lex (ps i) (ps m)=false)→(∀b o,s.heap.get? b=some o→h'.get? b=some o)→Q v {s with heap:=h',toks:=tk}):wpAny (model prog w) A (call (.builtin "min") [.ref l]) Q E s:=by
 have ll:l<s.heap.objs.size:=by obtain⟨_,e,_⟩:=hl;exact Heap.lt_size e
 refine call_function_tree F.kind_min F.plain_min F.entry_min (F.args_min1 _) ?_
 show wpAny _ A.in1 (Builtin.Builtins.bindParams "min" ["key","default"] 0 ⟨[],[]⟩ >>=_) _ _ s
 refine wpAny_bind (wpAny_of_eq (show Builtin.Builtins.bindParams "min" ["key","default"] 0 ⟨[],[]⟩=pure [none,none] from rfl) (wpAny_bind (wpAny_pure (wpAny_bind (wpAny_pyIter_list hl (wpAny_bind (wpAny_newObj_type ?_)))))))
 rw[nm]
 refine wpAny_pure ⟨plainId_quiet F.plain_min_loop _,?_⟩
 have z1:(s.heap.push {cls:= .type "list_iterator",data:= .fields #[.ref l,.int 0 0]}).objs.size=s.heap.objs.size+1:=Heap.size_push ..
 have lI:l≠s.heap.objs.size:=Nat.ne_of_lt ll
 have W:=Walks.list (prog:=prog) (w:=w) (A:=A.in1) hh s.heap.objs.size l lI vs.toArray
 have sz:vs.toArray.size=vs.length:=List.size_toArray ..
 have keep0:∀b o,s.heap.get? b=some o→((s.heap.push {cls:= .type "list_iterator",data:= .fields #[.ref l,.int 0 0]}).push (tmpE)).get? b=some o:=fun b o e=>Heap.get?_push_of_some _ (Heap.get?_push_of_some _ e)
 have gS:((s.heap.push {cls:= .type "list_iterator",data:= .fields #[.ref l,.int 0 0]}).push tmpE).get? (s.heap.push {cls:= .type "list_iterator",data:= .fields #[.ref l,.int 0 0]}).objs.size=some tmpE:=Heap.get?_push_size _ rfl
 have st0:((s.heap.push {cls:= .type "list_iterator",data:= .fields #[.ref l,.int 0 0]}).push tmpE).IsListIter s.heap.objs.size l 0∧((s.heap.push {cls:= .type "list_iterator",data:= .fields #[.ref l,.int 0 0]}).push tmpE).IsList l vs.toArray:=by
  refine⟨⟨_,Heap.get?_push_of_some _ (Heap.get?_push_size _ rfl),rfl,rfl⟩,?_⟩
  obtain⟨o,e,r⟩:=hl
  exact⟨o,keep0 l o e,r⟩
 have sf:(s.heap.push {cls:= .type "list_iterator",data:= .fields #[.ref l,.int 0 0]}).objs.size∉[s.heap.objs.size,l]:=fun z=>by
  rw[z1] at z
  rcases List.mem_cons.mp z with e | e
  ·exact absurd e (Nat.succ_ne_self _)
  ·rw[List.mem_singleton] at e;rw[←e] at ll;exact absurd ll (Nat.not_lt.mpr (Nat.le_succ _))
 have hw:∀b,b<s.heap.objs.size→b∉[s.heap.objs.size]∧b≠(s.heap.push {cls:= .type "list_iterator",data:= .fields #[.ref l,.int 0 0]}).objs.size:=fun b hb=>by rw[z1];simp;omega
 have hV:∀i v h,Old s.heap.objs.size s.heap h→vs.toArray[i]?=some v→At h v (ps i):=fun i v h old hv=>by
  obtain⟨a,o,t1,t2,n,e,ho,hc,hd⟩:=hp i v (by simpa using hv)
  exact⟨a,o,t1,t2,n,e,old a o (Heap.lt_size ho) ho,hc,hd⟩
 refine codeAny_builtin F.entry_min_loop ?_;rw[Around.under_plainId F.plain_min_loop _]
 show wpAny _ A.in1 (seqItems? (.ref (s.heap.push {cls:= .type "list_iterator",data:= .fields #[.ref l,.int 0 0]}).objs.size) >>=_) _ _ _
 refine wpAny_bind (wpAny_seqItems gS rfl ?_);show wpAny _ A.in1 (tryCatch (pyNext (.ref s.heap.objs.size)) _ >>=_) _ _ _
 refine wpAny_bind (wpAny_tryCatch (W.item 0 _ _ _ (by rw[sz];exact hne) st0 fun v h' tk hP st2 kp=>?_))
 have hs2:=kp _ _ (fun z=>sf (List.mem_cons.mpr (.inl (List.mem_singleton.mp z)))) gS
 show wpAny _ A.in1 (updateSeq (s.heap.push {cls:= .type "list_iterator",data:= .fields #[.ref l,.int 0 0]}).objs.size (fun _=>#[v,v]) >>=_) _ _ _;refine wpAny_bind ?_
 refine wpAny_updateSeq hs2 rfl ?_;rw[nm]
 have upd:∀b o,b≠(s.heap.push {cls:= .type "list_iterator",data:= .fields #[.ref l,.int 0 0]}).objs.size→h'.get? b=some o→(h'.update (s.heap.push {cls:= .type "list_iterator",data:= .fields #[.ref l,.int 0 0]}).objs.size (Obj.mapSeq fun _=>#[v,v])).get? b=some o:=fun b o hb e=>(Heap.get?_update_other _ _ (Ne.symm hb)).trans e
 have oldF:∀b o,s.heap.get? b=some o→(h'.update (s.heap.push {cls:= .type "list_iterator",data:= .fields #[.ref l,.int 0 0]}).objs.size (Obj.mapSeq fun _=>#[v,v])).get? b=some o:=fun b o e=>upd b o (hw b (Heap.lt_size e)).2 (kp b o (hw b (Heap.lt_size e)).1 (keep0 b o e))
 refine wpAny_pure ⟨plainId_quiet F.plain_min_loop _,walk (N0:=s.heap.objs.size) (h0:=s.heap) W hV sf hw hu _ 0 0 _ v _ rfl (by rw[sz];omega) (W.frame _ _ _ st2 fun b hf o e=>upd b o (fun z=>sf (z ▸ hf)) e) (fun b o hb e=>oldF b o e) hP (Nat.le_refl _) (fun i hi=>?_) (Heap.get?_update_self _ hs2 rfl) fun v' m h2 tk2 a1 a2 a3 a4=>?_⟩
 ·have:i=0:=by omega
  rw[this];exact Z81 _
 ·exact h v' m h2 tk2 (by simpa using a1) (fun i hi=>a3 i (by rw[sz];exact hi)) fun b o e=>a4 b o (hw b (Heap.lt_size e)).1 (hw b (Heap.lt_size e)).2 (oldF b o e)
end
end MP
namespace L3
open PySem PySem.Spec PyProof.Rows L2 MP
section
variable{X:Cx}{pins:List (Addr×Obj)}{σ:L2.St}{H:Hp}{s:Shared}
def Y89(K:PySem.W.Frag):List V→Hp→VK→Prop:=fun xs H Q=>∃(n:Addr) (bs:List Addr) (ps:List (Int×Int)),xs=[V.ref n]∧bs.length=ps.length∧0<ps.length∧SqL K H n (bs.map V.ref)∧(∀(i:Nat) b p,bs[i]?=some b→ps[i]?=some p→SqT K H b [.int p.1,.int p.2])∧
 ∀(i:Nat) b p,bs[i]?=some b→ps[i]?=some p→(∀q∈ps,MP.lex q p=false)→Q (.ref b) H
theorem By{bs:List Addr}{vs:List Value}(r:Vals (bs.map V.ref) vs){i:Nat}{v:Value}(h:vs[i]?=some v):∃b,bs[i]?=some b∧v= .ref b:=by
 induction bs generalizing vs i with
 | nil=>rw[List.map_nil] at r;cases r;simp at h
 | cons n ns ih=>
  rw[List.map_cons] at r
  cases r with
  | cons a b=>
   cases i with
   | zero=>
    simp at h
    subst h
    exact⟨n,rfl,a⟩
   | succ i=>exact ih b (by simpa using h)
theorem Z04(hc:X.calm=true)(hu:X.A.units+64<cLine):Ww X (.builtin "min") (Y89 X.K):=by
 intro pins s σ H xs us Q I r h
 obtain⟨n,bs,ps,rfl,hl,hne,sq,st,q⟩:=h
 obtain⟨u,rfl,ru⟩:=Sv r
 cases (show u=Value.ref n from ru)
 obtain⟨its,r',pl,hz⟩:=I.list sq
 have len:=r'.length
 rw[List.length_map] at len
 refine Z11 (ps:=fun i=>ps.getD i (0,0)) (I.ok.hd hc) (show X.A.units+1<cLine by omega) pl.isList (by omega) (fun i v hv=>?_) fun v m h' tk hv hm k=>?_
 ·obtain⟨b,hb,rfl⟩:=By r' hv
  have hi:i<ps.length:=by have:=(List.getElem?_eq_some_iff.mp hb).1;omega
  have hp:ps[i]?=some ps[i]:=List.getElem?_eq_getElem hi
  have e:ps.getD i (0,0)=ps[i]:=by rw[List.getD_eq_getElem?_getD,hp];rfl
  rw[e]
  generalize ps[i]=p at hp
  obtain⟨its2,r2,⟨o,ho,hcl,k,hd⟩,_⟩:=I.tuple (st i b p hb hp)
  cases r2 with
  | cons a1 b1=>
   cases b1 with
   | cons a2 b2=>
    cases b2
    obtain⟨t1,rfl⟩:=a1
    obtain⟨t2,rfl⟩:=a2
    exact⟨b,o,t1,t2,k,rfl,ho,hcl,hd⟩
 ·obtain⟨b,hb,rfl⟩:=By r' hv
  have hi:m<ps.length:=by have:=(List.getElem?_eq_some_iff.mp hb).1;omega
  have hp:ps[m]?=some ps[m]:=List.getElem?_eq_getElem hi
  have e:ps.getD m (0,0)=ps[m]:=by rw[List.getD_eq_getElem?_getD,hp];rfl
  refine⟨.ref b,H,I.kept k,rfl,q m b _ hb hp fun x hx=>?_⟩
  obtain⟨j,hj,ej⟩:=List.getElem_of_mem hx
  have:=hm j (by omega)
  have e2:ps.getD j (0,0)=x:=by rw[List.getD_eq_getElem?_getD,List.getElem?_eq_getElem hj,ej];rfl
  rw[e,e2] at this
  exact this
end
end L3
namespace L2
open PySem PySem.Spec PyProof.Rows PySem.W
noncomputable def S8:Str:=(("_law_inmost":Str)++".<locals>.")++"<lambda>"
noncomputable def T1(p1:Pos):Arguments:={posonlyargs:=[],args:=[⟨"_law_other",none,p1⟩],vararg:=none,kwonlyargs:=[],kw_defaults:=[],kwarg:=none,defaults:=[]}
noncomputable def Vv(p1 p2 p3 p4 p5:Pos):Expr:= .Call (.Name "len" p1) [.Subscript (.Name "_law_rings" p2) (.Name "_law_other" p3) p4] [] p5
noncomputable def Yo:Scope:={kind:= .function,names:=[("_law_other",.local),("_law_rings",.free),("len",.globalImplicit)],isGenerator:=false,isCoroutine:=false,more:=[]}
def X0(c:Addr):Heap→Prop:=fun h=>h.CodeRec (.ref c) S8
def Vq(f cc c:Addr):Heap→Prop:=fun h=>∃p1 p2 p3 p4 p5 p6 pm ctv,h.get? f=some (kla_obj "<lambda>" S8 (T1 p1) (Vv p2 p3 p4 p5 p6) Yo [("_law_rings",cc)] pm c ctv)
theorem Ze6{P:Program}{w:World}{H:Hp}{h:Heap}{c:Addr}(x:X0 c h):X4 P w H h c (.ext (X0 c)):=by
 refine⟨x,?_,fun h1 h2 q k=>?_⟩
 ·obtain⟨c',o,_,_,e,ho,_⟩:=x
  cases e
  exact⟨o,ho⟩
 ·obtain⟨c',o,vs,t,e,ho,r⟩:=q
  cases e
  exact⟨c,o,vs,t,rfl,k o ho,r⟩
theorem Bu{P:Program}{w:World}{H:Hp}{h:Heap}{f cc c:Addr}(x:Vq f cc c h):X4 P w H h f (.ext (Vq f cc c)):=
 ⟨x,let ⟨_,_,_,_,_,_,_,_,e⟩:=x;⟨_,e⟩,fun _ _ zz64 k=>by obtain⟨p1,p2,p3,p4,p5,p6,pm,ctv,e⟩:=zz64;exact⟨p1,p2,p3,p4,p5,p6,pm,ctv,k _ e⟩⟩
theorem Za4{p1:Pos}{body:Expr}{cl:List (Str×Addr)}{pm cdv ct u1:Value}:bindArgs (kla_fn "<lambda>" S8 (T1 p1) body Yo cl pm cdv ct) ⟨[u1],[]⟩=(pure [(("_law_other":Str),u1)]:Sem (List (Str×Value))):=by
 rfl
theorem Z46{M:Model}{A:Around}{E:Value→Shared→Prop}{s:Shared}{env:Env}{e:Expr}{es:List Expr}{pos:Pos}{Q:List Value→Shared→Prop}(hs:starEach (e::es) env=(false,eval e env)::starEach es env)
  (h:wpAny M A (eval e env) (fun u s1=>wpAny M A (spliced (backTo pos (starEach es env))) (fun us s2=>Q (u::us) s2) E s1) E s):wpAny M A (spliced (backTo pos (starEach (e::es) env))) Q E s:=by
 rw[hs]
 show wpAny _ _ (spliced ((false,eval e env)::backTo pos (starEach es env))) _ _ s
 exact Calls.spliced_cons h
section
variable{X:Cx}{pins:List (Addr×Obj)}{σ:St}{H:Hp}{s:Shared}
theorem Zd6{A:Around}{E:Value→Shared→Prop}{f cc c r l:Addr}{x:Int}{t:Tok}{kvs:List (Key×V)}{ys:List V}(I:Inv X pins σ H s)(hr:A.depth<recursionLimit)(h1:H f=some (.ext (Vq f cc c)))(h2:H c=some (.ext (X0 c)))
  (h3:∃o,s.heap.get? cc=some o∧o.data= .cell (some (.ref r))) (h4:Rd H r (.dK kvs)) (h5:valV kvs (.inl x)=some (.ref l)) (h6:SqL X.K H l ys) (hm:X.mg "len"=none):
  wpAny (model X.prog X.w) A (call (.ref f) [.int x t]) (fun v s'=>∃h' tk t',s'={s with heap:=h',toks:=tk}∧v= .int ys.length t'∧∀b o,s.heap.get? b=some o→h'.get? b=some o) E s:=by
 obtain⟨⟨p1,p2,p3,p4,p5,p6,pm,ctv,ho⟩,_,_⟩:=I.hok f _ h1
 obtain⟨hcd,_⟩:=I.hok c _ h2
 obtain⟨oc,hc1,hc2⟩:=h3
 refine wpAny_call (kla_callFunE hr ho rfl rfl rfl rfl hcd ?_)
 rw[Za4]
 refine wpAny_pure (wpAny_newFunctionEnv (fun x hx=>?_) (fun x hx=>?_) (fun h₁ hns hsb=>⟨I.nolimit.fresh _ hsb,?_⟩) rfl)
 ·simp[Yo] at hx
  rcases hx with rfl | rfl | rfl<;>decide
 ·simp at hx
  rcases hx with rfl
  rfl
 ·have hk₁:∀b o,s.heap.get? b=some o→h₁.get? b=some o:=fun b o e=>hsb.extBut b o (Nat.ne_of_lt (Heap.lt_size e)) (Heap.get?_push_of_some _ e)
  have I1:∀tk,Inv X pins σ H {s with heap:=h₁,toks:=tk}:=fun tk=>I.kept hk₁
  show codeAny _ _ (.expr (Vv p2 p3 p4 p5 p6) (envX S8 Yo s.heap.objs.size f (.ref c) [("_law_rings",cc)])) _ _
  refine kla_codeExpr ?_
  obtain⟨mb,b1,b2⟩:=I.mod.blt
  refine wpAny_Call_Name_kw (Calls.Name_function_global rfl rfl (Calls.loadGlobal_builtin (I.mod.glob.keeps (I1 0).bk) hm (b1.keeps (I1 0).bk) ((b2 "len" (by decide)).trans rfl) ?_) rfl)
  refine PyProof.Rows.callWith_builtin1 (Z46 rfl (Zs1 PySem.F.slot_dict_getitem.lookup (fun _ _=>rfl) ?_)) rfl rfl
  refine wpAny_Name (wpAny_loadName_free rfl rfl rfl ⟨oc,hk₁ _ _ hc1,hc2⟩ (wpAny_Name (wpAny_loadName_local rfl rfl hns rfl ?_)))
  have g:DGet H r (.int x) (some (.ref l)):= .inl ⟨kvs,.inl x,h4,rfl,h5.symm⟩
  refine⟨Q0 (I1 _) g,?_⟩
  obtain⟨z,hd,vs,rel,dd⟩:=Ji (I1 0).hok h4
  obtain⟨w',hw,rw'⟩:=RelO.some_of (v:=V.ref l) (o:=valueAt vs (.inl x)) (by rw[←h5];exact rel.val _)
  cases (show w'=Value.ref l from rw')
  refine wpAny_getItem_of (Oq (k:= .inl x) ⟨t,rfl⟩) dd.mapOf hw ?_
  refine Calls.spliced_nil ?_
  obtain⟨its,r',pl,hz⟩:=(I1 0).list h6
  have hlen:=r'.length
  have hn:=T9
  refine Calls.call_len_list pl.isList (by simp only[List.size_toArray]<;>omega) ?_
  rw[List.size_toArray,←hlen]
  exact⟨h₁,_,_,rfl,rfl,hk₁⟩
def Tri(H:Hp)(ps:Array Value):Prop:=TriplesOk ps.toList∧∀pos v,codeAmong pos ps.toList=some v→∃c,v= .ref c∧H c=some (.ext (X0 c))
theorem Tri.keep{H H':Hp}{ps:Array Value}(x:Tri H ps)(k:∀c,H c=some (.ext (X0 c))→H' c=some (.ext (X0 c))):Tri H' ps:=
 ⟨x.1,fun pos v e=>by obtain⟨c,q,r⟩:=x.2 pos v e;exact⟨c,q,k c r⟩⟩
theorem Tri.nil(H:Hp):Tri H #[]:=⟨trivial,fun _ _ e=>by cases e⟩
theorem El{pos q:Pos}{c v:Value}:∀(l:List Value),TriplesOk l→codeAmong pos (l++[rawInt q.line,rawInt q.col,c])=some v→codeAmong pos l=some v∨v=c:=by
 intro l h
 fun_induction TriplesOk l with
 | case1=>
  intro e
  simp only[List.nil_append,codeAmong,rawInt] at e
  split at e
  ·cases e;exact .inr rfl
  ·cases e
 | case2 a t b u x rest ih=>
  intro e
  simp only[List.cons_append,codeAmong] at e ⊢
  split at e
  ·rename_i hc
   rw[if_pos hc];exact .inl e
  ·rename_i hc
   rw[if_neg hc];exact ih h e
 | case3 l h1 h2=>exact h.elim
theorem Tri.snoc{H H':Hp}{ps:Array Value}{pos:Pos}{c:Addr}(x:Tri H ps)(k:∀c,H c=some (.ext (X0 c))→H' c=some (.ext (X0 c)))(hc:H' c=some (.ext (X0 c))):Tri H' (ps++#[rawInt pos.line,rawInt pos.col,.ref c]):=by
 refine⟨?_,fun q v e=>?_⟩
 ·rw[Array.toList_append];exact TriplesOk_snoc _ _ _ _ x.1
 ·rw[Array.toList_append] at e
  rcases El (q:=pos) ps.toList x.1 e with e | e
  ·obtain⟨c',q1,q2⟩:=x.2 q v e;exact⟨c',q1,k c' q2⟩
  ·exact⟨c,e,hc⟩
structure Bs(K:PySem.W.Frag)(mg:Str→Option Value)(base:Heap):Prop where
 bm:∃bm ob,mg "__builtins__"=some (.ref bm)∧bm≠builtinsNs∧base.get? bm=some ob∧ob.cls= .type "module"∧ob.dict=some builtinsNs∧ob.data= .plain
 cd:∀c P,tabIn K "_law_inmost"=some (c,P)→CodeHd base c P
theorem Zd2{c0 P cc:Addr}{ps:Array Value}{p1 p2 p3 p4 p5 p6 pos:Pos}{Q:Value→Shared→Prop}(I:Inv X pins σ H s)(B:Bs X.K X.mg X.base)(hq:X.env.qual=("_law_inmost":Str)++".<locals>.")(hcode:X.env.code= .ref c0)
  (ht:tabIn X.K "_law_inmost"=some (c0,P)) (hP:H P=some (.tbl ps)) (tr:Tri H ps) (hcl:closureFor Yo X.env=(pure [(("_law_rings":Str),cc)]:Sem (List (Str×Addr))))
  (h:∀f c H1 s',Inv X pins σ H1 s'→H1 f=some (.ext (Vq f cc c))→H1 c=some (.ext (X0 c))→(∃ps',H1 P=some (.tbl ps')∧Tri H1 ps')→(∀b o,b≠P→H b=some o→H1 b=some o)→Q (.ref f) s'):
  wpAny (model X.prog X.w) X.A (eval (.Lambda (T1 p1) (Vv p2 p3 p4 p5 p6) Yo pos) X.env) Q X.xe s:=by
 refine kla_eval rfl ?_
 rw[hq]
 have hPo:s.heap.get? P=some (tabObj ps):=I.hok P _ hP
 have C:=(B.cd c0 P ht).keeps I.bk
 have nb:∀b o,X.base.get? b=some o→b≠P:=fun b o e z=>by
  have:=(I.bs b o e).2
  rw[z,hP] at this;cases this
 obtain⟨bm,ob,b1,b2,b3,b4,b5,b6⟩:=B.bm
 have hgs:=I.mod.glob.keeps I.bk
 have hbG:bm≠mainGlobals:=fun q=>by
  obtain⟨o,es,ep,e,hd,_⟩:=I.mod.glob
  rw[q,e] at b3;cases b3;rw[hd] at b6;cases b6
 have hgP:mainGlobals≠P:=by
  obtain⟨o,es,ep,e,hd,_⟩:=I.mod.glob
  exact nb _ _ e
 have hBA:s.heap.BuiltinsAt X.mg P:=⟨bm,ob,b1,b2,hbG,nb _ _ b3,I.bk _ _ b3,b4,b5,b6⟩
 cases hm:codeAmong pos ps.toList with
 | some cv=>
  obtain⟨c,rfl,hc⟩:=tr.2 pos cv hm
  refine kla_makeFunctionHit (mg:=X.mg) hcl I.ok.glob hgs hcode C hPo tr.1 hm hBA fun ctv h' tk hk hsz=>?_
  have hf:H h'.objs.size=none:=I.hok.fresh hsz
  have kp:∀b u,s.heap.get? b=some u→(h'.push (kla_obj "<lambda>" S8 (T1 p1) (Vv p2 p3 p4 p5 p6) Yo [("_law_rings",cc)] ((X.mg "__name__").getD .none) c ctv)).get? b=some u:=fun b u e=>Heap.get?_push_of_some _ (hk b u e)
  refine h h'.objs.size c (upd H h'.objs.size (.ext (Vq h'.objs.size cc c))) _ (I.laid kp hsz (Bu ⟨p1,p2,p3,p4,p5,p6,_,ctv,Heap.get?_push_size _ rfl⟩)) Zw ?_ ?_ fun b o _ e=>?_
  ·exact(Zf (Zq hc hf)).trans hc
  ·exact⟨ps,(Zf (Zq hP hf)).trans hP,tr.keep fun c e=>(Zf (Zq e hf)).trans e⟩
  ·exact(Zf (Zq e hf)).trans e
 | none=>
  refine kla_makeFunction (mg:=X.mg) hcl I.ok.glob hgs hcode C hPo tr.1 hm hgP hBA fun c ctv h' tk hx hge hlt hrec htb=>?_
  have hc0:H c=none:=I.hok.fresh hge
  have hf0:H h'.objs.size=none:=I.hok.fresh (Nat.le_trans hge (Nat.le_of_lt hlt))
  have hcf:c≠h'.objs.size:=Nat.ne_of_lt hlt
  have hPc:P≠c:=Zq hP hc0
  have hPf:P≠h'.objs.size:=Zq hP hf0
  have hcc:∀b o,s.heap.get? b=some o→b≠c∧b≠h'.objs.size:=fun b o e=>⟨Nat.ne_of_lt (Nat.lt_of_lt_of_le (Heap.lt_size e) hge),Nat.ne_of_lt (Nat.lt_trans (Nat.lt_of_lt_of_le (Heap.lt_size e) hge) hlt)⟩
  have hH:∀b o,H b=some o→b≠c∧b≠h'.objs.size:=fun b o e=>⟨Zq e hc0,Zq e hf0⟩
  have kp:∀b u,b≠P→s.heap.get? b=some u→(h'.push (kla_obj "<lambda>" S8 (T1 p1) (Vv p2 p3 p4 p5 p6) Yo [("_law_rings",cc)] ((X.mg "__name__").getD .none) c ctv)).get? b=some u:=fun b u hb e=>Heap.get?_push_of_some _ (hx b u hb e)
  have look:∀b,b≠P→b≠c→b≠h'.objs.size→upd (upd (upd H P (.tbl (ps++#[rawInt pos.line,rawInt pos.col,.ref c]))) c (.ext (X0 c))) h'.objs.size (.ext (Vq h'.objs.size cc c)) b=H b:=fun b h1 h2 h3=>by rw[Zf h3,Zf h2,Zf h1]
  have lP:upd (upd (upd H P (.tbl (ps++#[rawInt pos.line,rawInt pos.col,.ref c]))) c (.ext (X0 c))) h'.objs.size (.ext (Vq h'.objs.size cc c)) P=some (.tbl (ps++#[rawInt pos.line,rawInt pos.col,.ref c])):=by rw[Zf hPf,Zf hPc,Zw]
  have lc:upd (upd (upd H P (.tbl (ps++#[rawInt pos.line,rawInt pos.col,.ref c]))) c (.ext (X0 c))) h'.objs.size (.ext (Vq h'.objs.size cc c)) c=some (.ext (X0 c)):=by rw[Zf hcf,Zw]
  have old:∀b o,b≠P→H b=some o→upd (upd (upd H P (.tbl (ps++#[rawInt pos.line,rawInt pos.col,.ref c]))) c (.ext (X0 c))) h'.objs.size (.ext (Vq h'.objs.size cc c)) b=some o:=fun b o hb e=>(look b hb (hH b o e).1 (hH b o e).2).trans e
  refine h h'.objs.size c _ _ (I.step (ch:=[]) (g':=s.gens) (d':=s.drawn) (H':=upd (upd (upd H P (.tbl (ps++#[rawInt pos.line,rawInt pos.col,.ref c]))) c (.ext (X0 c))) h'.objs.size (.ext (Vq h'.objs.size cc c))) (fun _ z=>nomatch z) (fun b o _ _ _ e n=>kp b o (fun z=>by rw[z,hP] at n;cases n) e) (fun b o _ _ _ e n=>⟨o.slots,kp b o (fun z=>by rw[z,hP] at n;cases n) e⟩) (fun b o _ e n=>?_) (fun b o _ e=>?_) (fun b xs e=>old b _ (fun z=>by rw[z,hP] at e;cases e) e) (fun b o u e=>old b _ (fun z=>by rw[z,hP] at e;cases e) e) (fun b qs e=>?_) (fun m hm=>?_) (fun b o e=>?_) I.bare) Zw lc ⟨_,lP,tr.snoc (fun c' e=>old c' _ (fun z=>by rw[z,hP] at e;cases e) e) lc⟩ old
  ·exact(look b (fun z=>by rw[z,hP] at n;cases n) (hcc b o e).1 (hcc b o e).2).trans n
  ·by_cases hb:b=P
   ·subst hb;exact⟨_,Heap.get?_push_of_some _ htb⟩
   ·exact⟨o,kp b o hb e⟩
  ·by_cases hb:b=P
   ·subst hb
    rw[hP] at e;cases e
    exact⟨_,lP⟩
   ·exact⟨#[],by rw[old b _ hb e,Array.append_empty]⟩
  ·obtain⟨o,es,ep,ho,r⟩:=hm
   exact⟨o,es,ep,kp _ o (fun z=>by rw[z,hPo] at ho;cases ho;cases r.1) ho,r⟩
  ·by_cases hf:b=h'.objs.size
   ·subst hf
    rw[Zw] at e;cases e
    exact Bu ⟨p1,p2,p3,p4,p5,p6,_,ctv,Heap.get?_push_size _ rfl⟩
   ·by_cases hc:b=c
    ·subst hc
     rw[lc] at e;cases e
     exact Ze6 (hrec.keeps fun b o e=>Heap.get?_push_of_some _ e)
    ·by_cases hb:b=P
     ·subst hb
      rw[lP] at e;cases e
      exact Heap.get?_push_of_some _ htb
     ·rw[look b hb hc hf] at e
      refine(I.hok b o e).stay (fun a u ha q=>kp a u (fun z=>?_) q) (fun a q=>old a _ (fun z=>by rw[z,hP] at q;cases q) q) fun a xs q=>old a _ (fun z=>by rw[z,hP] at q;cases q) q
      rcases ha with ha | ha
      ·exact hb (ha.symm.trans z)
      ·rw[z,hP] at ha;cases ha
end
def Co(K:PySem.W.Frag)(H:Hp):Prop:=∀c P,tabIn K "_law_inmost"=some (c,P)→∃ps,H P=some (.tbl ps)∧Tri H ps
theorem Bl{P:Program}{w:World}{K:PySem.W.Frag}{mg mb:Str→Option Value}{CX:CXT}{k:Nat}{fa a c0 T:Addr}{fd:FuncData}{x:Str}{sp:Sp}{s₁:Shared}{vs:List Value}{ns:List Int}
  (KX:K.In s₁.heap) (hns:s₁.heap.Ns mainGlobals mg) (hb:s₁.heap.Ns builtinsNs mb) (hbb:∀x:Str,x≠"__name__"→mb x=bootBuiltins x) (hlim:s₁.heap.NoLimit) (hg:s₁.gens=#[])
  (hbm:∃bm ob,mg "__builtins__"=some (.ref bm)∧bm≠builtinsNs∧s₁.heap.get? bm=some ob∧ob.cls= .type "module"∧ob.dict=some builtinsNs∧ob.data= .plain)
  (ht:tabIn K "_law_inmost"=some (c0,T)) (hnt:noTabs K=true) (hC:CodeHd s₁.heap c0 T) (hT:s₁.heap.get? T=some (tabObj #[]))
  (ha:s₁.heap.get? a=some {cls:= .type "list",data:= .seq vs.toArray}) (hi:IntsAre vs ns) (hl:ns.length≤sizeLine) (hr:Room k callerA)
  (F:∀base:Heap,K.In base→base.Ns mainGlobals mg→Bs K mg base→FnOk P w K mg base CX k fa fd [x] sp) (hbind:∀(s:Shared) (u:Value),BindsTo s fd ⟨[u],[]⟩ [(x,u)])
  (hsp:∀H:Hp,((∃o,H a=some (.frz o (.lst (ns.map V.int))))∨SqL K (fun _=>none) a (ns.map V.int))→Co K H→sp [.ref a] H (fun v _=>v= .bl true) fun _ _ _=>False)
  (hCX:∀H e s',CX [] H s₁ (fun _ _ _=>False) e s'→False):
  codeAny (model P w) callerA (.call (.ref fa) ⟨[.ref a],[]⟩) (fun r s'=>r= .ok (.ret (.bool true))∧OldK s₁.heap s'.heap∧s'.os=s₁.os∧AllBare s'.gens) s₁:=by
 have rv:=Xt hi
 have lenV:=hi.length
 have haT:a≠T:=fun z=>by rw[z,hT] at ha;cases ha
 have core:∀H:Hp,((∃o,H a=some (.frz o (.lst (ns.map V.int))))∨SqL K (fun _=>none) a (ns.map V.int))→H T=some (.tbl #[])→HOk P w H s₁.heap→(∀b,H b≠none→b=a∨b=T)→(H a≠none→K.lookup a=none)→(∀u,H a=some u→∃o xs,u= .frz o (.lst xs))→
   codeAny (model P w) callerA (.call (.ref fa) ⟨[.ref a],[]⟩) (fun r s'=>r= .ok (.ret (.bool true))∧OldK s₁.heap s'.heap∧s'.os=s₁.os∧AllBare s'.gens) s₁:=by
  intro H hS hTb hok hA hK hO
  have base_of:∀{b:Addr} {o:Obj},s₁.heap.get? b=some o→H b=none→(hidT s₁.heap H).get? b=some o:=fun e n=>Zc1 e n
  have noO:∀{b:Addr} {o:Obj},s₁.heap.get? b=some o→o≠{cls:= .type "list",data:= .seq vs.toArray}→o≠tabObj #[]→H b=none:=fun{b o} e d1 d2=>by
   cases q:H b with
   | none=>rfl
   | some u=>
    rcases hA b (by rw[q];simp) with z | z
    ·rw[z,ha] at e;cases e;exact absurd rfl d1
    ·rw[z,hT] at e;cases e;exact absurd rfl d2
  have nsK:∀{b:Addr} {m:Str→Option Value},s₁.heap.Ns b m→(hidT s₁.heap H).Ns b m:=fun{b m} zz65=>by obtain⟨o,es,ep,e,d,r⟩:=zz65;exact⟨o,es,ep,base_of e (noO e (fun z=>by rw[z] at d;cases d) fun z=>by rw[z] at d;cases d),d,r⟩
  have hKb:K.In (hidT s₁.heap H):=fun b o e=>base_of (KX b o e) (by
   cases q:H b with
   | none=>rfl
   | some u=>
    rcases hA b (by rw[q];simp) with z | z
    ·subst z;rw[hK (by rw[q];simp)] at e;cases e
    ·have e2:=KX b o e
     rw[z,hT] at e2;cases e2
     have h2:=List.all_eq_true.mp hnt _ (mem_of_lookupK e)
     exact absurd (show false=true from h2) Bool.false_ne_true)
  have hM:Mod K mg (hidT s₁.heap H):=⟨hKb,nsK hns,⟨mb,nsK hb,hbb⟩,let ⟨mc,h1,h2⟩:=hlim;⟨mc,nsK h1,h2⟩⟩
  have hB:Bs K mg (hidT s₁.heap H):=by
   refine⟨?_,fun c P e=>?_⟩
   ·obtain⟨bm,ob,b1,b2,b3,b4,b5,b6⟩:=hbm
    exact⟨bm,ob,b1,b2,base_of b3 (noO b3 (fun z=>by rw[z] at b6;cases b6) fun z=>by rw[z] at b6;cases b6),b4,b5,b6⟩
   ·rw[ht] at e;cases e
    obtain⟨o,vs',file,tf,flags,tg,inF,text,tt,e1,e2,e3,r⟩:=hC
    exact⟨o,vs',file,tf,flags,tg,inF,text,tt,base_of e1 (noO e1 (fun z=>by rw[z] at e3;cases e3) fun z=>by rw[z] at e2;cases e2),e2,e3,r⟩
  have e0:Env0 P w K mg (hidT s₁.heap H) callerA [] s₁ H:=⟨rfl,hM,fun b o e=>Zq3 e,Nat.le_of_eq (Z78 _ _),trivial,fun b hb=>absurd (show b∈([]:List Addr) from hb) (by simp),hok,.of_eq hg⟩
  have tA:Co K H:=fun c P e=>by
   rw[ht] at e;cases e
   exact⟨#[],hTb,Tri.nil H⟩
  refine codeAny_mono ((F _ hKb (nsK hns) hB).run callerA [] s₁ H ⟨[.ref a],[]⟩ [.ref a] [.ref a] _ _ hr e0 (hbind s₁ (.ref a)) (.cons rfl .nil) (hsp H hS tA)) fun r s' h=>?_
  cases r with
  | error e=>exact(hCX H e s' h).elim
  | ok fl=>
   cases fl with
   | next=>exact False.elim h
   | brk=>exact False.elim h
   | cont=>exact False.elim h
   | ret u=>
    obtain⟨v,H',os,bare,un,hok',r',q⟩:=h
    have q':v= .bl true:=q
    subst q'
    obtain rfl:u=Value.bool true:=r'
    obtain⟨more,hm⟩:=un.tbls T #[] hTb
    have hT':s'.heap.get? T=some (tabObj (#[]++more)):=hok' T _ hm
    have kp:∀b o,b≠T→s₁.heap.get? b=some o→s'.heap.get? b=some o:=fun b o hb e=>by
     cases q:H b with
     | none=>exact un.keep b o e q (by intro z;exact absurd (show b∈([]:List Addr) from z) (by simp)) (by simp)
     | some u=>
      rcases hA b (by rw[q];simp) with z | z
      ·subst z
       obtain⟨ob,xs,rfl⟩:=hO u q
       have z2:=un.frzs b ob _ q
       obtain⟨e1,_⟩:=hok b _ q
       obtain⟨e2,_⟩:=hok' b _ z2
       rw[e] at e1;cases e1
       exact e2
      ·exact absurd z hb
    refine⟨rfl,⟨fun b o e=>?_,fun b o e=>?_⟩,os,bare⟩
    ·by_cases hb:b=T
     ·subst hb
      rw[hT] at e;cases e
      exact .inr (.inl ⟨(hC.tab hT).isCodeTable,rfl,#[],more,rfl,hT'⟩)
     ·exact .inl (kp b o hb e)
    ·by_cases hb:b=T
     ·subst hb;exact⟨_,hT'⟩
     ·exact⟨o,kp b o hb e⟩
 cases hk:K.lookup a with
 | some o=>
  have e:=KX a o hk
  rw[ha] at e
  cases e
  refine core (fun b=>if b=T then some (.tbl #[]) else none) (.inr (.inr ⟨_,vs.toArray,_,hk,rfl,rfl,rfl,by rw[List.size_toArray,lenV];exact hl,by simpa using rv⟩)) (if_pos rfl) (fun b u z=>?_) (fun b z=>?_) (fun z=>absurd (if_neg haT) z) fun u z=>?_
  ·by_cases hb:b=T
   ·have z':=(if_pos hb).symm.trans z
    cases z'
    subst hb
    exact hT
   ·have z':=(if_neg hb).symm.trans z
    cases z'
  ·by_cases hb:b=T
   ·exact .inr hb
   ·exact absurd (if_neg hb) z
  ·have z':=(if_neg haT).symm.trans z
   cases z'
 | none=>
  refine core (fun b=>if b=T then some (.tbl #[]) else if b=a then some (.frz {cls:= .type "list",data:= .seq vs.toArray} (.lst (ns.map V.int))) else none) (.inl ⟨{cls:= .type "list",data:= .seq vs.toArray},(if_neg haT).trans (if_pos rfl)⟩) (if_pos rfl) (fun b u z=>?_) (fun b z=>?_) (fun _=>hk) fun u z=>?_
  ·by_cases hb:b=T
   ·have z':=(if_pos hb).symm.trans z
    cases z'
    subst hb
    exact hT
   ·have z1:=(if_neg hb).symm.trans z
    by_cases hb2:b=a
    ·have z':=(if_pos hb2).symm.trans z1
     cases z'
     subst hb2
     exact⟨ha,by rw[List.length_map];exact hl,vs,_,rv,ha⟩
    ·have z':=(if_neg hb2).symm.trans z1
     cases z'
  ·by_cases hb:b=T
   ·exact .inr hb
   ·by_cases hb2:b=a
    ·exact .inl hb2
    ·exact absurd ((if_neg hb).trans (if_neg hb2)) z
  ·have z':=((if_neg haT).trans (if_pos rfl)).symm.trans z
   cases z'
   exact⟨_,_,rfl⟩
section
variable{X:Cx}{pins:List (Addr×Obj)}{σ:St}{H:Hp}{s:Shared}
noncomputable def Po(X:Cx)(h:Heap):List (Addr×Obj):=(List.range h.objs.size).filterMap fun b=>if b=X.env.locals then none else if (X.base.get? b).isSome then none else(h.get? b).map fun o=>(b,o)
theorem C7{h:Heap}{b:Addr}{o:Obj}(e:h.get? b=some o)(hL:b≠X.env.locals)(hn:X.base.get? b=none):(b,o)∈Po X h:=by
 refine List.mem_filterMap.mpr ⟨b,List.mem_range.mpr (Heap.lt_size e),?_⟩
 rw[if_neg hL,hn,e]
 rfl
theorem C6{h:Heap}:∀p∈Po X h,h.get? p.1=some p.2∧p.1≠X.env.locals∧X.base.get? p.1=none:=by
 intro p hp
 obtain⟨b,_,hb⟩:=List.mem_filterMap.mp hp
 split at hb
 ·cases hb
 ·rename_i hL
  split at hb
  ·cases hb
  ·rename_i hn
   obtain⟨o,e,rfl⟩:=Option.map_eq_some_iff.mp hb
   exact⟨e,hL,by cases q:X.base.get? b with | none=>rfl | some u=>rw[q] at hn;exact absurd rfl hn⟩
theorem Zs8{h:Heap}{a:Addr}{m m':Str→Option Value}(h1:h.Ns a m)(h2:h.Ns a m'):m=m':=by
 obtain⟨o,es,ep,e,d,_,r⟩:=h1
 obtain⟨o',es',ep',e',d',_,r'⟩:=h2
 rw[e] at e'
 cases e'
 rw[d] at d'
 cases d'
 funext x
 exact(r x).symm.trans (r' x)
theorem Gm{h:Heap}{m:Str→Option Value}{own:List (Addr×Obj)}(I:Inv X pins σ H s)(F:Fr X.base X.env.locals h m)(N:News X.base X.env.locals h (Po X s.heap++own)):∀b o,b≠X.env.locals→s.heap.get? b=some o→h.get? b=some o:=by
 intro b o hL e
 cases q:X.base.get? b with
 | none=>exact(N _ (List.mem_append_left _ (C7 e hL q))).1
 | some u=>
  have:=I.bk b u q
  rw[e] at this
  cases this
  exact F.keep b o q
theorem Zj6{h:Heap}{tk:Nat}{m:Str→Option Value}{own:List (Addr×Obj)}(I:Inv X pins σ H s)(hm:s.heap.Ns X.env.locals m)(F:Fr X.base X.env.locals h m)(N:News X.base X.env.locals h (Po X s.heap++own)):Inv X pins σ H {s with heap:=h,toks:=tk}:=by
 have kp:=Gm I F N
 refine I.step (ch:=[]) (g':=s.gens) (d':=s.drawn) (fun _ z=>nomatch z) (fun b o hL _ _ e _=>kp b o hL e) (fun b o hL _ _ e _=>⟨o.slots,kp b o hL e⟩) (fun b o _ _ n=>n) (fun b o _ e=>?_) (fun b xs e=>e) (fun b o u e=>e) (fun b ps e=>⟨#[],by rw[Array.append_empty];exact e⟩) (fun m' hm'=>?_) (fun b o e=>?_) I.bare
 ·by_cases hb:b=X.env.locals
  ·subst hb
   obtain⟨o',_,_,e',_⟩:=F.ns
   exact⟨o',e'⟩
  ·exact⟨o,kp b o hb e⟩
 ·rw[Zs8 hm' hm]
  exact F.ns
 ·refine(I.hok b o e).stay (fun a u ha q=>kp a u (fun z=>?_) q) (fun a q=>q) fun a xs q=>q
  have fr:=I.free
  rcases ha with ha | ha
  ·rw[ha] at z;rw[z,fr] at e;cases e
  ·rw[z,fr] at ha;cases ha
theorem Zs4{h h':Heap}{m:Str→Option Value}{L:Addr}{h₀:Heap}(F:Fr h₀ L h m)(k:∀b o,h.get? b=some o→h'.get? b=some o):Fr h₀ L h' m:=by
 obtain⟨o,es,ep,e,r⟩:=F.ns
 exact⟨⟨o,es,ep,k _ _ e,r⟩,fun b u q=>k _ _ (F.keep b u q),F.above⟩
theorem Z17{h h':Heap}{L:Addr}{h₀:Heap}{news:List (Addr×Obj)}(N:News h₀ L h news)(k:∀b o,h.get? b=some o→h'.get? b=some o):News h₀ L h' news:=
 fun p hp=>⟨k _ _ (N p hp).1,(N p hp).2⟩
theorem Zk9{ns:List Int}{vs:List Value}(r:Vals (ns.map V.int) vs){i:Nat}{v:Value}(h:vs[i]?=some v):∃x t,ns[i]?=some x∧v= .int x t:=by
 induction ns generalizing vs i with
 | nil=>rw[List.map_nil] at r;cases r;simp at h
 | cons n ns ih=>
  rw[List.map_cons] at r
  cases r with
  | cons a b=>
   cases i with
   | zero=>
    simp at h
    subst h
    obtain⟨t,rfl⟩:=a
    exact⟨n,t,rfl,rfl⟩
   | succ i=>exact ih b (by simpa using h)
theorem Zm2{c0 T cc:Addr}{p1 p2 p3 p4 p5 p6 pos q1 q2 q3 q4:Pos}{i0 i2:Nat}(B:Bs X.K X.mg X.base)(hq:X.env.qual=("_law_inmost":Str)++".<locals>.")(hcode:X.env.code= .ref c0)
  (ht:tabIn X.K "_law_inmost"=some (c0,T)) (hcl:closureFor Yo X.env=(pure [(("_law_rings":Str),cc)]:Sem (List (Str×Addr)))) (hcc:X.env.cells.lookup ("_law_rings":Str)=some cc) (hc:X.calm=true) (hr:X.A.depth<recursionLimit)
  (hgm:Gl X "min") (hmm:X.mg "min"=none) (hml:X.mg "len"=none) (n0:X.N[i0]?=some ("_law_rings":Str)) (n2:X.N[i2]?=some ("_law_around":Str)) (v0:Vis X.env.scope "_law_rings") (v2:Vis X.env.scope "_law_around") (k0:X.env.kindOf "_law_rings"=some .cell):
  PE X (.Call (.Name "min" q1) [.Name "_law_around" q2] [{arg:=some "key",value:= .Lambda (T1 p1) (Vv p2 p3 p4 p5 p6) Yo pos,pos:=q3}] q4) (fun σ H Q=>
   ∃(n r:Addr) (ns:List Int) (kvs:List (Key×V)) (fl:Int→Nat) (ps:Array Value),σ[i2]?=some (some (.ref n))∧σ[i0]?=some (some (.ref r))∧SqL X.K H n (ns.map V.int)∧0<ns.length∧Rd H r (.dK kvs)∧
    (∀x∈ns,∃l ys,valV kvs (.inl x)=some (.ref l)∧SqL X.K H l ys∧ys.length=fl x)∧H T=some (.tbl ps)∧Tri H ps∧
    ∀m∈ns,(∀y∈ns,fl m≤fl y)→∀H1,(∀b o,b≠T→H b=some o→H1 b=some o)→(∃ps',H1 T=some (.tbl ps')∧Tri H1 ps')→Q (.int m) H1):=by
 rintro pins s σ H Q I ⟨n,r,ns,kvs,fl,ps,e2,e0,sq,hne,hd,hit,hP,tr,q⟩
 refine wpAny_Call_Name_kw (Sf I hgm hmm rfl ?_)
 refine callWith_kw (Z46 rfl (thn (Zl2 n2 v2 rfl rfl pins s σ H (fun v H1=>v= .ref n∧H1=H) I ⟨_,e2,rfl,rfl⟩) fun u s1 zz66=>?_))
 obtain⟨v,H1,I1,rv,e3,e4⟩:=zz66
 subst e3 e4
 cases (show u=Value.ref n from rv)
 refine Calls.spliced_nil ?_
 refine kws_cons (Zd2 I1 B hq hcode ht hP tr hcl fun f c H2 s2 I2 f1 f2 f3 f4=>kws_nil ?_)
 show wpAny _ _ (call (.builtin "min") [.ref n] [(Str.ofString "key",.ref f)]) _ _ _
 have nT:∀b o,H1 b=some o→(∀qs,o≠ .tbl qs)→b≠T:=fun b o e h z=>by rw[z,hP] at e;cases e;exact h _ rfl
 have sq2:∀{a:Addr} {ys:List V},SqL X.K H1 a ys→SqL X.K H2 a ys:=by
  intro a ys h
  rcases h with h | h
  ·refine .inl ?_
   rcases h with h | ⟨o,h⟩
   ·exact .inl (f4 _ _ (nT _ _ h fun _ z=>by cases z) h)
   ·exact .inr ⟨o,f4 _ _ (nT _ _ h fun _ z=>by cases z) h⟩
  ·exact .inr h
 have hd2:Rd H2 r (.dK kvs):=by
  rcases hd with h | ⟨o,h⟩
  ·exact .inl (f4 _ _ (nT _ _ h fun _ z=>by cases z) h)
  ·exact .inr ⟨o,f4 _ _ (nT _ _ h fun _ z=>by cases z) h⟩
 obtain⟨its,rits,pl,hz⟩:=I2.list (sq2 sq)
 have hlen:=rits.length
 rw[List.length_map] at hlen
 obtain⟨m,hns,hlk⟩:=I2.loc
 have F2:Fr X.base X.env.locals s2.heap m:=⟨hns,I2.bk,Nat.le_trans I2.ok.bsz I2.ok.above⟩
 have N2:News X.base X.env.locals s2.heap (Po X s2.heap):=C6
 have cell:∃o,s2.heap.get? cc=some o∧o.data= .cell (some (.ref r)):=by
  obtain⟨u,ru,lo⟩:=hlk i0 "_law_rings" (.ref r) n0 e0 v0
  cases (show u=Value.ref r from ru)
  rcases lo with⟨k,_⟩ | ⟨_,c',hc',hcell⟩
  ·rw[k0] at k;cases k
  ·rw[hcc] at hc'
   cases hc'
   exact hcell
 have ccL:cc≠X.env.locals:=I2.cne _ _ hcc
 refine kmk_min (h₀:=X.base) (L:=X.env.locals) (m:=m) (news:=Po X s2.heap) (vs:=its) (fun i=>((fl (ns.getD i 0):Nat):Int)) (I2.ok.hd hc) F2 N2 (fun h F N=>?_) (by omega) (fun i v hv h tk own F N=>?_) (fun i v h' tk' hv hmin F N=>?_)
 ·have kp:=Gm (own:=[]) I2 F (by rw[List.append_nil];exact N)
  obtain⟨o,ho,rest⟩:=pl.isList
  refine⟨o,kp _ _ (fun z=>?_) ho,rest⟩
  obtain⟨o',es,ep,e',d',_⟩:=hns
  rw[z,e'] at ho
  cases ho
  rw[d'] at rest
  obtain⟨_,_,z⟩:=rest
  cases z
 ·obtain⟨x,t,hx,rfl⟩:=Zk9 rits hv
  obtain⟨l,ys,h1,h2,h3⟩:=hit x (List.mem_of_getElem? hx)
  obtain⟨oc,hc1,hc2⟩:=cell
  have I3:=Zj6 (tk:=tk) I2 hns F N
  refine wpAny_mono (Zd6 (A:=X.A.in1) (E:=fun _ _=>False) (x:=x) (t:=t) I3 hr f1 f2 ⟨oc,Gm I2 F N _ _ ccL hc1,hc2⟩ hd2 h1 (sq2 h2) hml) (fun v' s' zz67=>?_) fun _ _ z=>z
  obtain⟨h',tk',t',es,ev,kp⟩:=zz67
  refine⟨h',tk',t',es,?_,Zs4 F kp,Z17 N kp⟩
  rw[ev,h3]
  have:ns.getD i 0=x:=by rw[List.getD_eq_getElem?_getD,hx];rfl
  rw[this]
 ·obtain⟨x,t,hx,rfl⟩:=Zk9 rits hv
  have I3:=Zj6 (tk:=tk') (own:=[]) I2 hns F (by rw[List.append_nil];exact N)
  refine⟨.int x,H2,I3,⟨t,rfl⟩,q x (List.mem_of_getElem? hx) (fun y hy=>?_) H2 f4 f3⟩
  obtain⟨j,hj,ej⟩:=List.getElem_of_mem hy
  have:=(hmin j (by omega)).1
  have g1:ns.getD i 0=x:=by rw[List.getD_eq_getElem?_getD,hx];rfl
  have g2:ns.getD j 0=y:=by rw[List.getD_eq_getElem?_getD,List.getElem?_eq_getElem hj,ej];rfl
  rw[g1,g2] at this
  omega
end
end L2
namespace U
open PySem PySem.Spec PyProof.Rows L2 L3
inductive D where
 | non | bl (b:Bool) | int (i:Int) | str (x:Str) | tup (ds:List D) | ref (n:Nat) | ty (n:String) | gtup (ds:List D) | cls (a:Addr) | exn (e C dx:Addr) (row:D)
inductive Cell where
 | lst (ds:List D) | frz (ds:List D) | dct (kvs:List (Key×D)) | fdc (kvs:List (Key×D))
noncomputable abbrev Z2:=List Cell
noncomputable abbrev DEnv:=List (Option D)
abbrev DK:=D→Z2→Prop
abbrev DX:=Addr→D→Z2→Prop
abbrev DE:=DEnv→Z2→DK→Prop
abbrev DA:=DEnv→Z2→(List D→Z2→Prop)→Prop
abbrev DT:=DEnv→Z2→(Bool→Z2→Prop)→Prop
abbrev DSp:=List D→Z2→DK→DX→Prop
structure DEnds where
 nx:DEnv→Z2→Prop
 rt:DK
 bk:DEnv→Z2→Prop:=fun _ _=>False
 ct:DEnv→Z2→Prop:=fun _ _=>False
abbrev DS:=DEnds→DEnv→Z2→Prop
structure Vw where
 K:PySem.W.Frag
 H:Hp
 μ:Nat→Addr
 n:Nat
mutual
def RD(w:Vw):D→V→Prop
 | .non,v=>v= .non
 | .bl b,v=>v= .bl b
 | .int i,v=>v= .int i
 | .str x,v=>v= .str x
 | .tup ds,v=>∃a vs,v= .ref a∧w.H a=some (.tup vs)∧RDs w ds vs
 | .ref i,v=>i<w.n∧v= .ref (w.μ i)
 | .ty n,v=>v= .ty n
 | .gtup ds,v=>∃a vs,v= .ref a∧SqT w.K w.H a vs∧RDs w ds vs
 | .cls a,v=>v= .ref a
 | .exn e C dx row,v=>v= .ref e∧w.H e=some (XO e (.ref C) (some dx))∧∃r,w.H dx=some (.xd [("row",r)])∧RD w row r
def RDs(w:Vw):List D→List V→Prop
 | [],vs=>vs=[]
 | d::ds,vs=>∃v r,vs=v::r∧RD w d v∧RDs w ds r
end
def RKV(w:Vw):List (Key×D)→List (Key×V)→Prop
 | [],vs=>vs=[]
 |(k,d)::ds,vs=>∃v r,vs=(k,v)::r∧RD w d v∧RKV w ds r
def SqF(K:PySem.W.Frag)(H:Hp)(a:Addr)(vs:List V):Prop:=(∃o,H a=some (.frz o (.lst vs)))∨SqL K (fun _=>none) a vs
noncomputable def Cell.mut:Cell→Bool
 | .frz _=>false
 | _=>true
def Qn(w:Vw):Cell→Addr→Prop
 | .lst ds,a=>∃vs,w.H a=some (.lst vs)∧RDs w ds vs
 | .frz ds,a=>∃vs,SqF w.K w.H a vs∧RDs w ds vs
 | .dct kvs,a=>∃vs,w.H a=some (.dK vs)∧RKV w kvs vs
 | .fdc kvs,a=>∃o vs,w.H a=some (.frz o (.dK vs))∧RKV w kvs vs
structure RS(w:Vw)(M:Z2):Prop where
 len:w.n=M.length
 inj:∀(i j:Nat) (ci cj:Cell),M[i]?=some ci→M[j]?=some cj→ci.mut=true→cj.mut=true→w.μ i=w.μ j→i=j
 cell:∀i c,M[i]?=some c→Qn w c (w.μ i)
 tab:Co w.K w.H
noncomputable def Tb:HO→Bool
 | .tbl _ | .ext _=>true
 | _=>false
theorem Sy{K:PySem.W.Frag}{H H':Hp}(x:Co K H)(k:∀b o,H b=some o→Tb o=true→H' b=some o):Co K H':=fun c P e=>by
 obtain⟨ps,h1,h2⟩:=x c P e
 exact⟨ps,k _ _ h1 rfl,h2.keep fun c q=>k _ _ q rfl⟩
noncomputable def Imm:HO→Bool
 | .tup _ | .xd _ | .ext _ | .frz _ _=>true
 | _=>false
structure Ext(w w':Vw):Prop where
 K:w'.K=w.K
 n:w.n≤w'.n
 μ:∀i,i<w.n→w'.μ i=w.μ i
 imm:∀a o,w.H a=some o→Imm o=true→w'.H a=some o
theorem Ext.refl(w:Vw):Ext w w:=⟨rfl,Nat.le_refl _,fun _ _=>rfl,fun _ _ h _=>h⟩
theorem Ext.trans{a b c:Vw}(x:Ext a b)(y:Ext b c):Ext a c:=
 ⟨y.K.trans x.K,Nat.le_trans x.n y.n,fun i h=>(y.μ i (Nat.lt_of_lt_of_le h x.n)).trans (x.μ i h),fun p o h q=>y.imm p o (x.imm p o h q) q⟩
theorem Ext.sqT{w w':Vw}(x:Ext w w'){a:Addr}{vs:List V}(h:SqT w.K w.H a vs):SqT w'.K w'.H a vs:=by
 rw[x.K]
 rcases h with(h | ⟨o,h⟩) | h
 ·exact .inl (.inl (x.imm _ _ h rfl))
 ·exact .inl (.inr ⟨o,x.imm _ _ h rfl⟩)
 ·exact .inr h
mutual
theorem RD.ext{w w':Vw}(x:Ext w w'):∀{d:D} {v:V},RD w d v→RD w' d v
 | .non,v,h=>by unfold RD at *;exact h
 | .bl b,v,h=>by unfold RD at *;exact h
 | .int i,v,h=>by unfold RD at *;exact h
 | .str _,v,h=>by unfold RD at *;exact h
 | .tup ds,v,h=>by
  unfold RD at *
  obtain⟨a,vs,e,q,r⟩:=h
  exact⟨a,vs,e,x.imm _ _ q rfl,RDs.ext x r⟩
 | .ref i,v,h=>by
  unfold RD at *
  exact⟨Nat.lt_of_lt_of_le h.1 x.n,by rw[x.μ i h.1];exact h.2⟩
 | .ty n,v,h=>by unfold RD at *;exact h
 | .gtup ds,v,h=>by
  unfold RD at *
  obtain⟨a,vs,e,q,r⟩:=h
  exact⟨a,vs,e,x.sqT q,RDs.ext x r⟩
 | .cls a,v,h=>by unfold RD at *;exact h
 | .exn e C dx row,v,h=>by
  unfold RD at *
  obtain⟨e1,q,r,q2,q3⟩:=h
  exact⟨e1,x.imm _ _ q rfl,r,x.imm _ _ q2 rfl,RD.ext x q3⟩
theorem RDs.ext{w w':Vw}(x:Ext w w'):∀{ds:List D} {vs:List V},RDs w ds vs→RDs w' ds vs
 | [],vs,h=>by unfold RDs at *;exact h
 | d::ds,vs,h=>by
  unfold RDs at *
  obtain⟨v,r,e,h1,h2⟩:=h
  exact⟨v,r,e,RD.ext x h1,RDs.ext x h2⟩
end
theorem RKV.ext{w w':Vw}(x:Ext w w'):∀{ds:List (Key×D)} {vs:List (Key×V)},RKV w ds vs→RKV w' ds vs
 | [],vs,h=>by unfold RKV at *;exact h
 |(k,d)::ds,vs,h=>by
  unfold RKV at *
  obtain⟨v,r,e,h1,h2⟩:=h
  exact⟨v,r,e,RD.ext x h1,RKV.ext x h2⟩
structure Ext0(w w':Vw):Prop where
 K:w'.K=w.K
 n:w.n≤w'.n
 μ:∀i,i<w.n→w'.μ i=w.μ i
 imm:∀a o,w.H a=some o→Imm o=true→(∀ob kvs,o≠ .frz ob (.dK kvs))→w'.H a=some o
mutual
theorem RD.ext0{w w':Vw}(x:Ext0 w w'):∀{d:D} {v:V},RD w d v→RD w' d v
 | .non,v,h=>by unfold RD at *;exact h
 | .bl b,v,h=>by unfold RD at *;exact h
 | .int i,v,h=>by unfold RD at *;exact h
 | .str _,v,h=>by unfold RD at *;exact h
 | .tup ds,v,h=>by
  unfold RD at *
  obtain⟨a,vs,e,q,r⟩:=h
  exact⟨a,vs,e,x.imm _ _ q rfl (fun _ _ z=>by cases z),RDs.ext0 x r⟩
 | .ref i,v,h=>by
  unfold RD at *
  exact⟨Nat.lt_of_lt_of_le h.1 x.n,by rw[x.μ i h.1];exact h.2⟩
 | .ty n,v,h=>by unfold RD at *;exact h
 | .gtup ds,v,h=>by
  unfold RD at *
  obtain⟨a,vs,e,q,r⟩:=h
  refine⟨a,vs,e,?_,RDs.ext0 x r⟩
  rw[x.K]
  rcases q with(h | ⟨o,h⟩) | h
  ·exact .inl (.inl (x.imm _ _ h rfl (fun _ _ z=>by cases z)))
  ·exact .inl (.inr ⟨o,x.imm _ _ h rfl (fun _ _ z=>by cases z)⟩)
  ·exact .inr h
 | .cls a,v,h=>by unfold RD at *;exact h
 | .exn e C dx row,v,h=>by
  unfold RD at *
  obtain⟨e1,q,r,q2,q3⟩:=h
  exact⟨e1,x.imm _ _ q rfl (fun _ _ z=>by cases z),r,x.imm _ _ q2 rfl (fun _ _ z=>by cases z),RD.ext0 x q3⟩
theorem RDs.ext0{w w':Vw}(x:Ext0 w w'):∀{ds:List D} {vs:List V},RDs w ds vs→RDs w' ds vs
 | [],vs,h=>by unfold RDs at *;exact h
 | d::ds,vs,h=>by
  unfold RDs at *
  obtain⟨v,r,e,h1,h2⟩:=h
  exact⟨v,r,e,RD.ext0 x h1,RDs.ext0 x h2⟩
end
theorem RKV.ext0{w w':Vw}(x:Ext0 w w'):∀{ds:List (Key×D)} {vs:List (Key×V)},RKV w ds vs→RKV w' ds vs
 | [],vs,h=>by unfold RKV at *;exact h
 |(k,d)::ds,vs,h=>by
  unfold RKV at *
  obtain⟨v,r,e,h1,h2⟩:=h
  exact⟨v,r,e,RD.ext0 x h1,RKV.ext0 x h2⟩
theorem RDs.nil(w:Vw):RDs w [] []:=by unfold RDs;rfl
theorem RDs.cons{w:Vw}{d:D}{v:V}{ds:List D}{vs:List V}(h:RD w d v)(r:RDs w ds vs):RDs w (d::ds) (v::vs):=by unfold RDs;exact⟨v,vs,rfl,h,r⟩
theorem RDs.length{w:Vw}:∀{ds:List D} {vs:List V},RDs w ds vs→vs.length=ds.length
 | [],vs,h=>by unfold RDs at h;subst h;rfl
 | d::ds,vs,h=>by
  unfold RDs at h
  obtain⟨v,r,rfl,_,h2⟩:=h
  simp[h2.length]
theorem RDs.get{w:Vw}:∀{ds:List D} {vs:List V} {i:Nat} {d:D},RDs w ds vs→ds[i]?=some d→∃v,vs[i]?=some v∧RD w d v
 | [],vs,i,d,h,e=>by simp at e
 | d::ds,vs,i,d',h,e=>by
  unfold RDs at h
  obtain⟨v,r,rfl,h1,h2⟩:=h
  cases i with
  | zero=>simp at e;subst e;exact⟨v,rfl,h1⟩
  | succ i=>simpa using RDs.get h2 (by simpa using e)
theorem RDs.append{w:Vw}:∀{ds es:List D} {vs us:List V},RDs w ds vs→RDs w es us→RDs w (ds++es) (vs++us)
 | [],es,vs,us,h,g=>by unfold RDs at h;subst h;exact g
 | d::ds,es,vs,us,h,g=>by
  unfold RDs at h
  obtain⟨v,r,rfl,h1,h2⟩:=h
  exact RDs.cons h1 (RDs.append h2 g)
theorem RDs.take{w:Vw}:∀{ds:List D} {vs:List V} (n:Nat),RDs w ds vs→RDs w (ds.take n) (vs.take n)
 | _,_,0,_=>by simp[RDs.nil]
 | [],vs,n+1,h=>by unfold RDs at h;subst h;simp[RDs.nil]
 | d::ds,vs,n+1,h=>by
  unfold RDs at h
  obtain⟨v,r,rfl,h1,h2⟩:=h
  exact RDs.cons h1 (RDs.take n h2)
theorem RDs.drop{w:Vw}:∀{ds:List D} {vs:List V} (n:Nat),RDs w ds vs→RDs w (ds.drop n) (vs.drop n)
 | _,_,0,h=>by simpa using h
 | [],vs,n+1,h=>by unfold RDs at h;subst h;simp[RDs.nil]
 | d::ds,vs,n+1,h=>by
  unfold RDs at h
  obtain⟨v,r,rfl,h1,h2⟩:=h
  simpa using RDs.drop n h2
theorem RDs.set{w:Vw}{d:D}{v:V}(q:RD w d v):∀{ds:List D} {vs:List V} (n:Nat),RDs w ds vs→RDs w (ds.set n d) (vs.set n v)
 | [],vs,n,h=>by unfold RDs at h;subst h;simp[RDs.nil]
 | d::ds,vs,0,h=>by
  unfold RDs at h
  obtain⟨v,r,rfl,h1,h2⟩:=h
  exact RDs.cons q h2
 | d::ds,vs,n+1,h=>by
  unfold RDs at h
  obtain⟨v,r,rfl,h1,h2⟩:=h
  exact RDs.cons h1 (RDs.set q n h2)
theorem RDs.reverse{w:Vw}:∀{ds:List D} {vs:List V},RDs w ds vs→RDs w ds.reverse vs.reverse
 | [],vs,h=>by unfold RDs at h;subst h;simp[RDs.nil]
 | d::ds,vs,h=>by
  unfold RDs at h
  obtain⟨v,r,rfl,h1,h2⟩:=h
  simp only[List.reverse_cons]
  exact(RDs.reverse h2).append (RDs.cons h1 (RDs.nil w))
noncomputable def Vw.push(w:Vw)(a:Addr)(o:HO):Vw:=⟨w.K,upd w.H a o,fun i=>if i=w.n then a else w.μ i,w.n+1⟩
noncomputable def Vw.alloc(w:Vw)(a:Addr)(o:HO):Vw:={w with H:=upd w.H a o}
theorem Vd{w:Vw}{a:Addr}{o:HO}(h:w.H a=none):Ext w (w.alloc a o):=
 ⟨rfl,Nat.le_refl _,fun _ _=>rfl,fun b u q _=>by
  show upd w.H a o b=some u
  rw[Zf (by rintro rfl;rw[h] at q;cases q)];exact q⟩
theorem Ta{w:Vw}{a:Addr}{o:HO}(h:w.H a=none):Ext w (w.push a o):=
 ⟨rfl,Nat.le_succ _,fun i hi=>by show(if i=w.n then a else w.μ i)=_;rw[if_neg (by omega)],fun b u q _=>by
  show upd w.H a o b=some u
  rw[Zf (by rintro rfl;rw[h] at q;cases q)];exact q⟩
theorem SqF.stay{w w':Vw}{a:Addr}{vs:List V}(x:Ext w w')(h:SqF w.K w.H a vs):SqF w'.K w'.H a vs:=by
 rcases h with⟨o,h⟩ | h
 ·exact .inl ⟨o,x.imm _ _ h rfl⟩
 ·rw[x.K];exact .inr h
theorem SqF.sq{K:PySem.W.Frag}{H:Hp}{a:Addr}{vs:List V}(h:SqF K H a vs):SqL K H a vs:=by
 rcases h with⟨o,h⟩ | (h | ⟨o,h⟩) | h
 ·exact .inl (.inr ⟨o,h⟩)
 ·cases h
 ·cases h
 ·exact .inr h
theorem Qn.some{w:Vw}{c:Cell}{a:Addr}(hm:c.mut=true)(h:Qn w c a):∃o,w.H a=some o:=by
 cases c with
 | lst ds=>obtain⟨vs,q,_⟩:=h;exact⟨_,q⟩
 | frz ds=>cases hm
 | dct ds=>obtain⟨vs,q,_⟩:=h;exact⟨_,q⟩
 | fdc ds=>obtain⟨o,vs,q,_⟩:=h;exact⟨_,q⟩
theorem Qn.stay{w w':Vw}{c:Cell}{a:Addr}(x:Ext w w')(h:Qn w c a)(k:c.mut=true→w'.H a=w.H a):Qn w' c a:=by
 cases c with
 | lst ds=>obtain⟨vs,q,r⟩:=h;exact⟨vs,(k rfl).trans q,r.ext x⟩
 | frz ds=>obtain⟨vs,q,r⟩:=h;exact⟨vs,q.stay x,r.ext x⟩
 | dct ds=>obtain⟨vs,q,r⟩:=h;exact⟨vs,(k rfl).trans q,r.ext x⟩
 | fdc ds=>obtain⟨o,vs,q,r⟩:=h;exact⟨o,vs,(k rfl).trans q,r.ext x⟩
theorem RS.alloc{w:Vw}{M:Z2}{a:Addr}{o:HO}(R:RS w M)(h:w.H a=none):RS (w.alloc a o) M:=
 ⟨R.len,R.inj,fun i c e=>by
  have q:=R.cell i c e
  refine q.stay (Vd h) fun hm=>?_
  obtain⟨u,hu⟩:=q.some hm
  exact Zf (fun z=>by have z:w.μ i=a:=z;rw[z,h] at hu;cases hu),Sy R.tab fun b o e _=>(Zf (Zq e h)).trans e⟩
theorem Ps{w:Vw}{c:Cell}{a:Addr}{o:HO}(h:Qn w c a)(hm:c.mut=true)(e:w.H a=some o):Tb o=false:=by
 cases c with
 | lst ds=>obtain⟨vs,q,_⟩:=h;rw[e] at q;cases q;rfl
 | frz ds=>cases hm
 | dct ds=>obtain⟨vs,q,_⟩:=h;rw[e] at q;cases q;rfl
 | fdc ds=>obtain⟨_,vs,q,_⟩:=h;rw[e] at q;cases q;rfl
theorem RS.push{w:Vw}{M:Z2}{a:Addr}{o:HO}{c:Cell}(R:RS w M)(h:w.H a=none)(new:Qn (w.push a o) c a):RS (w.push a o) (M++[c]):=by
 have old:∀(i:Nat) (ci:Cell),(M++[c])[i]?=some ci→(i=w.n∧ci=c)∨(i<w.n∧M[i]?=some ci):=fun i ci e=>by
  by_cases hi:i<M.length
  ·rw[List.getElem?_append_left hi] at e
   exact .inr ⟨by rw[R.len];exact hi,e⟩
  ·rw[List.getElem?_append_right (by omega)] at e
   have hz:i - M.length=0:=by
    have:=(List.getElem?_eq_some_iff.mp e).1
    simp at this
    omega
   rw[hz] at e
   simp at e
   exact .inl ⟨by rw[R.len];omega,e.symm⟩
 have no:∀(i:Nat) (ci:Cell),M[i]?=some ci→ci.mut=true→w.μ i≠a:=fun i ci e hm z=>by
  obtain⟨u,hu⟩:=(R.cell i ci e).some hm
  rw[z,h] at hu;cases hu
 refine⟨by show w.n+1=_;rw[R.len];simp,fun i j ci cj ei ej mi mj e=>?_,fun i c' e=>?_,Sy R.tab fun b o e _=>(Zf (Zq e h)).trans e⟩
 ·change (if i=w.n then a else w.μ i)=(if j=w.n then a else w.μ j) at e
  rcases old i ci ei with⟨h1,_⟩ | ⟨h1,h1'⟩
  ·rcases old j cj ej with⟨h2,_⟩ | ⟨h2,h2'⟩
   ·omega
   ·rw[if_pos h1,if_neg (by omega)] at e
    exact absurd e.symm (no j cj h2' mj)
  ·rcases old j cj ej with⟨h2,_⟩ | ⟨h2,h2'⟩
   ·rw[if_neg (by omega),if_pos h2] at e
    exact absurd e (no i ci h1' mi)
   ·rw[if_neg (by omega),if_neg (by omega)] at e
    exact R.inj i j ci cj h1' h2' mi mj e
 ·show Qn _ c' (if i=w.n then a else w.μ i)
  rcases old i c' e with⟨h1,rfl⟩ | ⟨h1,h1'⟩
  ·rw[if_pos h1];exact new
  ·rw[if_neg (by omega)]
   have q:=R.cell i c' h1'
   exact q.stay (Ta h) fun hm=>Zf (no i c' h1' hm)
theorem Wf{w:Vw}{a:Addr}{u o:HO}(h:w.H a=some u)(hu:Imm u=false):Ext w (w.alloc a o):=
 ⟨rfl,Nat.le_refl _,fun _ _=>rfl,fun b v q z=>by
  show upd w.H a o b=some v
  rw[Zf (by rintro rfl;rw[h] at q;cases q;rw[hu] at z;cases z)];exact q⟩
theorem RS.write{w:Vw}{M:Z2}{i:Nat}{u o:HO}{c0 c:Cell}(R:RS w M)(h0:M[i]?=some c0)(hm:c0.mut=true)(hc:c.mut=true)(h:w.H (w.μ i)=some u)(hu:Imm u=false)(new:Qn (w.alloc (w.μ i) o) c (w.μ i)):RS (w.alloc (w.μ i) o) (M.set i c):=by
 have hi:i<M.length:=(List.getElem?_eq_some_iff.mp h0).1
 have old:∀(j:Nat) (cj:Cell),(M.set i c)[j]?=some cj→cj.mut=true→∃cj',M[j]?=some cj'∧cj'.mut=true:=fun j cj e mj=>by
  by_cases h1:j=i
  ·subst h1;exact⟨c0,h0,hm⟩
  ·rw[List.getElem?_set_ne (Ne.symm h1)] at e
   exact⟨cj,e,mj⟩
 refine⟨by show w.n=_;rw[R.len];simp,fun a b ca cb ea eb ma mb e=>?_,fun j c' e=>?_,Sy R.tab fun b o e t=>(Zf fun z=>?_).trans e⟩
 ·obtain⟨ca',ea',ma'⟩:=old a ca ea ma
  obtain⟨cb',eb',mb'⟩:=old b cb eb mb
  exact R.inj a b ca' cb' ea' eb' ma' mb' e
 ·by_cases h1:j=i
  ·subst h1
   rw[List.getElem?_set_self hi] at e
   cases e
   exact new
  ·rw[List.getElem?_set_ne (Ne.symm h1)] at e
   have q:=R.cell j c' e
   exact q.stay (Wf h hu) fun mj=>Zf (fun z=>h1 (R.inj j i c' c0 e h0 mj hm z))
 ·have z:b=w.μ i:=z
  subst z
  rw[Ps (R.cell i c0 h0) hm e] at t
  cases t
theorem N9{w:Vw}{a:Addr}{o:Obj}{vs:List (Key×V)}{u:HO}(h:w.H a=some (.frz o (.dK vs))):Ext0 w (w.alloc a u):=
 ⟨rfl,Nat.le_refl _,fun _ _=>rfl,fun b v q _ n=>by
  show upd w.H a u b=some v
  rw[Zf (by rintro rfl;rw[h] at q;cases q;exact n _ _ rfl)];exact q⟩
theorem RS.thaw{w:Vw}{M:Z2}{i:Nat}{o:Obj}{vs:List (Key×V)}{kvs:List (Key×D)}(R:RS w M)(h0:M[i]?=some (.fdc kvs))(h:w.H (w.μ i)=some (.frz o (.dK vs)))(r:RKV w kvs vs):RS (w.alloc (w.μ i) (.dK vs)) (M.set i (.dct kvs)):=by
 have hi:i<M.length:=(List.getElem?_eq_some_iff.mp h0).1
 have x:=N9 (u:= .dK vs) h
 have old:∀(j:Nat) (cj:Cell),(M.set i (.dct kvs))[j]?=some cj→cj.mut=true→∃cj',M[j]?=some cj'∧cj'.mut=true:=fun j cj e mj=>by
  by_cases h1:j=i
  ·subst h1;exact⟨_,h0,rfl⟩
  ·rw[List.getElem?_set_ne (Ne.symm h1)] at e
   exact⟨cj,e,mj⟩
 refine⟨by show w.n=_;rw[R.len];simp,fun a b ca cb ea eb ma mb e=>?_,fun j c' e=>?_,Sy R.tab fun b o e t=>(Zf fun z=>?_).trans e⟩
 ·obtain⟨ca',ea',ma'⟩:=old a ca ea ma
  obtain⟨cb',eb',mb'⟩:=old b cb eb mb
  exact R.inj a b ca' cb' ea' eb' ma' mb' e
 ·by_cases h1:j=i
  ·subst h1
   rw[List.getElem?_set_self hi] at e
   cases e
   exact⟨vs,Zw,r.ext0 x⟩
  ·rw[List.getElem?_set_ne (Ne.symm h1)] at e
   have q:=R.cell j c' e
   have ne:c'.mut=true→w.μ j≠w.μ i:=fun mj z=>h1 (R.inj j i c' _ e h0 mj rfl z)
   cases c' with
   | lst ds=>obtain⟨us,q,r⟩:=q;exact⟨us,(Zf (ne rfl)).trans q,r.ext0 x⟩
   | dct ds=>obtain⟨us,q,r⟩:=q;exact⟨us,(Zf (ne rfl)).trans q,r.ext0 x⟩
   | fdc ds=>obtain⟨o,us,q,r⟩:=q;exact⟨o,us,(Zf (ne rfl)).trans q,r.ext0 x⟩
   | frz ds=>
    obtain⟨us,q,r⟩:=q
    refine⟨us,?_,r.ext0 x⟩
    rcases q with⟨o,q⟩ | q
    ·exact .inl ⟨o,x.imm _ _ q rfl (fun _ _ z=>by cases z)⟩
    ·exact .inr q
 ·have z:b=w.μ i:=z
  subst z
  rw[h] at e
  cases e
  cases t
theorem Zc2{w1 w2:Vw}{a:Addr}{u f o:HO}(h:w1.H a=some u)(hu:Imm u=false)(x:Ext (w1.alloc a f) w2):Ext w1 (w2.alloc a o):=
 ⟨x.K,x.n,x.μ,fun b v q z=>by
  have hb:b≠a:=by rintro rfl;rw[h] at q;cases q;rw[hu] at z;cases z
  show upd w2.H a o b=some v
  rw[Zf hb]
  exact x.imm b v ((Zf hb).trans q) z⟩
inductive Op where
 | add | sub | mul | fdiv | mod | pow
 deriving DecidableEq
inductive Cm where
 | lt | le | gt | eq | ne | is | isnot | isin | notin
 deriving DecidableEq
inductive Bf where
 | len | isinst | min2 | max2 | min1 | list1 | sorted1 | sortedL
 deriving DecidableEq
inductive Mt where
 | append | get2 | pop0 | index1 | extend | clearD
 deriving DecidableEq
inductive Ty where
 | int | str | bool | list | tuple | dict | valueError
 deriving DecidableEq
noncomputable def Xd:Ty→String
 | .int=>"int" | .str=>"str" | .bool=>"bool" | .list=>"list" | .tuple=>"tuple" | .dict=>"dict" | .valueError=>"ValueError"
set_option genInjectivity false in
mutual
inductive E where
 | var (i:Nat) | int (i:Int) | bl (b:Bool) | non | str (x:Str) | ty (x:Ty) | glb (k:Nat)
 | bin (op:Op) (a b:E) | not (a:E) | cmp (op:Cm) (a b:E) | bop (isAnd:Bool) (es:Es) | ife (c a b:E)
 | lst (es:Es) | tup (es:Es) | dict0 | dct (a b:E) | dct2 (a b c d:E) | ix (a b:E) | sl (a:E) (lo hi:Eo)
 | call (f:Nat) (es:Es) | bf (b:Bf) (es:Es) | mt (m:Mt) (o:E) (es:Es)
 | comp (N':List Str) (js:List (Option Nat)) (tg:List Nat) (it:It) (cd:Eo) (e:E)
 | rev (a:E) | setf (b:Bool) (a:E)
inductive Es where
 | nil | cons (e:E) (r:Es)
inductive Eo where
 | no | yes (e:E)
inductive It where
 | seq (e:E) | fro (e:E) | rng1 (a:E) | rng2 (a b:E) | enm (e:E) | zip (es:Es)
end
set_option genInjectivity false in
mutual
inductive S where
 | ret (e:E) | expr (e:E)
 | set (tg:List Nat) (e:E)
 | put (o i v:E)
 | ite (c:E) (a b:Ss) | for_ (tg:List Nat) (it:It) (b:Ss) | forK (tg:List Nat) (e:E) (b:Ss) | while_ (c:E) (b:Ss)
inductive Ss where
 | nil | cons (s:S) (r:Ss)
end
noncomputable def Z7(M:Z2)(n:Nat):Option (List D):=match M[n]? with
 | some (.lst xs)=>some xs
 | some (.frz xs)=>some xs
 | _=>none
noncomputable def Zd(M:Z2)(n:Nat):Option (List D):=match M[n]? with
 | some (.lst xs)=>some xs
 | _=>none
noncomputable def Zm(M:Z2)(n:Nat):Option (List (Key×D)):=match M[n]? with
 | some (.dct xs)=>some xs
 | _=>none
noncomputable def Pu(M:Z2)(n:Nat):Option (List (Key×D)):=match M[n]? with
 | some (.dct xs)=>some xs
 | some (.fdc xs)=>some xs
 | _=>none
noncomputable def valD(kvs:List (Key×D))(k:Key):Option D:=(kvs.find? fun kv=>decide (kv.1=k)).map (·.2)
noncomputable def putD(kvs:List (Key×D))(k:Key)(v:D):List (Key×D):=
 if (kvs.any fun kv=>decide (kv.1=k))=true then kvs.map (fun kv=>if kv.1=k then(kv.1,v) else kv) else kvs++[(k,v)]
noncomputable def keyD:D→Option Key
 | .int i=>some (.inl i)
 | .str x=>some (.inr x)
 | _=>none
noncomputable def kD:Key→D
 | .inl i=> .int i
 | .inr x=> .str x
noncomputable def qdiv(i j:Int):Int:=if 0<j then i / j else i.fdiv j
noncomputable def qmod(i j:Int):Int:=if 0<j then i % j else i.fmod j
theorem Zu8(i j:Int):i.fdiv j=qdiv i j:=by
 unfold qdiv
 split
 ·exact Int.fdiv_eq_ediv_of_nonneg _ (by omega)
 ·rfl
theorem Zl9(i j:Int):i.fmod j=qmod i j:=by
 unfold qmod
 split
 ·exact Int.fmod_eq_emod_of_nonneg _ (by omega)
 ·rfl
theorem Zi2{i j:Int}(h:0<j):qdiv i j=i / j:=if_pos h
theorem Zb2{i j:Int}(h:0<j):qmod i j=i % j:=if_pos h
def B4(x:D)(F:Int→Prop):Prop:=match x with
 | .int i=>F i
 | _=>False
def Sr(x:D)(F:Nat→Prop):Prop:=match x with
 | .ref n=>F n
 | _=>False
def Y25(x:D)(F:List D→Prop):Prop:=match x with
 | .tup l=>F l
 | _=>False
def Qp(x y:D)(F:Int→Int→Prop):Prop:=B4 x fun i=>B4 y fun j=>F i j
def at0(l:List D)(P:Prop):Prop:=match l with
 | []=>P
 | _::_=>False
def at1(l:List D)(F:D→Prop):Prop:=match l with
 | []=>False
 | a::r=>at0 r (F a)
def at2(l:List D)(F:D→D→Prop):Prop:=match l with
 | []=>False
 | a::r=>at1 r (F a)
theorem Wz{x:D}{F:Int→Prop}(h:B4 x F):∃i,x= .int i∧F i:=by
 cases x with
 | int i=>exact⟨i,rfl,h⟩
 | _=>exact False.elim h
theorem Ys{x:D}{F:Nat→Prop}(h:Sr x F):∃n,x= .ref n∧F n:=by
 cases x with
 | ref n=>exact⟨n,rfl,h⟩
 | _=>exact False.elim h
theorem Z87{x:D}{F:List D→Prop}(h:Y25 x F):∃l,x= .tup l∧F l:=by
 cases x with
 | tup l=>exact⟨l,rfl,h⟩
 | _=>exact False.elim h
theorem Xb{x y:D}{F:Int→Int→Prop}(h:Qp x y F):∃i j,x= .int i∧y= .int j∧F i j:=by
 obtain⟨i,rfl,h1⟩:=Wz h
 obtain⟨j,rfl,h2⟩:=Wz h1
 exact⟨i,j,rfl,rfl,h2⟩
theorem Gu{l:List D}{P:Prop}(h:at0 l P):l=[]∧P:=by
 cases l with
 | nil=>exact⟨rfl,h⟩
 | cons _ _=>exact False.elim h
theorem Wj{l:List D}{F:D→Prop}(h:at1 l F):∃a,l=[a]∧F a:=by
 cases l with
 | nil=>exact False.elim h
 | cons a r=>obtain⟨rfl,h1⟩:=Gu h;exact⟨a,rfl,h1⟩
theorem Qc{l:List D}{F:D→D→Prop}(h:at2 l F):∃a b,l=[a,b]∧F a b:=by
 cases l with
 | nil=>exact False.elim h
 | cons a r=>obtain⟨b,rfl,h1⟩:=Wj h;exact⟨a,b,rfl,h1⟩
def addD(x y:D)(M:Z2)(Q:DK):Prop:=match x with
 | .int i=>B4 y fun j=>Q (.int (i+j)) M
 | .str a=>match y with
  | .str b=>a.length+b.length≤sizeLine∧Q (.str (a++b)) M
  | _=>False
 | .tup a=>Y25 y fun b=>a≠[]∧a.length+b.length≤sizeLine∧Q (.tup (a++b)) M
 | .ref a=>Sr y fun b=>∃xs ys,Zd M a=some xs∧Zd M b=some ys∧xs.length+ys.length≤sizeLine∧Q (.ref M.length) (M++[.lst (xs++ys)])
 | _=>False
def mulD(x y:D)(M:Z2)(Q:DK):Prop:=match x with
 | .int i=>B4 y fun j=>IntMulOk i j∧Q (.int (i * j)) M
 | .ref a=>B4 y fun k=>∃xs,Zd M a=some xs∧0≤k∧k<2 ^ 62∧xs.length * k.toNat≤sizeLine∧Q (.ref M.length) (M++[.lst (List.replicate k.toNat xs).flatten])
 | _=>False
def opD(op:Op)(x y:D)(M:Z2)(Q:DK):Prop:=match op with
 | .add=>addD x y M Q
 | .mul=>mulD x y M Q
 | .sub=>Qp x y fun i j=>Q (.int (i - j)) M
 | .fdiv=>Qp x y fun i j=>Ev i j∧Q (.int (qdiv i j)) M
 | .mod=>Qp x y fun i j=>j≠0∧Q (.int (qmod i j)) M
 | .pow=>Qp x y fun i j=>CPow i j∧Q (.int (i ^ j.toNat)) M
mutual
def PD(M:Z2):PyData→D→Prop
 | .none,d=>d= .non
 | .bool b,d=>d= .bl b
 | .int i,d=>d= .int i
 | .str x,d=>d= .str x
 | .list xs,d=>∃n ds,d= .ref n∧Z7 M n=some ds∧PDs M xs ds
 | .tuple xs,d=>∃ds,d= .tup ds∧PDs M xs ds
 | .dict _,_=>False
def PDs(M:Z2):List PyData→List D→Prop
 | [],ds=>ds=[]
 | x::xs,ds=>∃d r,ds=d::r∧PD M x d∧PDs M xs r
end
noncomputable def Yq:D→Bool
 | .non | .bl _ | .int _ | .str _=>true
 | _=>false
noncomputable def eqF:D→D→Bool
 | .non,.non=>true
 | .bl a,.bl b=>a==b
 | .bl a,.int b=>(if a then 1 else 0)==b
 | .int a,.bl b=>a==(if b then 1 else 0)
 | .int a,.int b=>a==b
 | .str a,.str b=>a==b
 | _,_=>false
noncomputable def inD(x:D)(xs:List D):Bool:=xs.any fun y=>eqF y x
def eqD(M:Z2):D→D→(Bool→Prop)→Prop
 | .int i,.int j,Q=>Q (decide (i=j))
 | .str i,.str j,Q=>Q (decide (i=j))
 | .bl i,.bl j,Q=>Q (decide (i=j))
 | .non,.non,Q=>Q true
 | .non,.int _,Q=>Q false
 | .int _,.non,Q=>Q false
 | .non,.bl _,Q=>Q false
 | .bl _,.non,Q=>Q false
 | .non,.str _,Q=>Q false
 | .str _,.non,Q=>Q false
 | .int _,.str _,Q=>Q false
 | .str _,.int _,Q=>Q false
 | .bl _,.str _,Q=>Q false
 | .str _,.bl _,Q=>Q false
 | x,y,Q=>(∃da db,PD M da x∧PD M db y∧da.canLay0=true∧db.canLay0=true∧min da.depth db.depth≤60∧Q (PyData.eqv da db))∨False
noncomputable def Z65(M:Z2):D→Option (List D)
 | .ref n=>Z7 M n
 | .tup xs=>some xs
 | .gtup xs=>some xs
 | _=>none
def inQ(M:Z2):D→D→(Bool→Prop)→Prop
 | .str a,.str b,Q=>Q (!(Builtin.Str.occurrences b a 0 b.length 1).isEmpty)
 | x,.ref n,Q=>(∃xs,Z7 M n=some xs∧Yq x=true∧xs.all Yq=true∧Q (inD x xs))∨(∃kvs k,Zm M n=some kvs∧keyD x=some k∧Q (valD kvs k).isSome)
 | x,.tup xs,Q=>Yq x=true∧xs.all Yq=true∧Q (inD x xs)
 | x,.gtup xs,Q=>Yq x=true∧xs.all Yq=true∧Q (inD x xs)
 | _,_,_=>False
def nonD(x y:D)(Q:Bool→Prop):Prop:=match y with
 | .non=>match x with
  | .non=>Q true
  | .bl _=>Q false
  | .int _=>Q false
  | .str _=>Q false
  | .tup _=>Q false
  | .ref _=>Q false
  | .exn _ _ _ _=>Q false
  | _=>False
 | _=>False
def cmD(M:Z2)(op:Cm)(x y:D)(Q:Bool→Prop):Prop:=match op with
 | .lt=>Qp x y fun i j=>Q (decide (i<j))
 | .le=>Qp x y fun i j=>Q (decide (i≤j))
 | .gt=>Qp x y fun i j=>Q (decide (j<i))
 | .eq=>eqD M x y Q
 | .ne=>eqD M x y fun b=>Q (!b)
 | .is=>nonD x y Q
 | .isnot=>nonD x y fun b=>Q (!b)
 | .isin=>inQ M x y Q
 | .notin=>inQ M x y fun b=>Q (!b)
def truD(M:Z2):D→(Bool→Prop)→Prop
 | .non,Q=>Q false
 | .bl b,Q=>Q b
 | .int i,Q=>Q (i !=0)
 | .str x,Q=>x.length≤sizeLine∧Q ((x.length:Int) !=0)
 | .tup xs,Q=>Q (!xs.isEmpty)
 | .ref n,Q=>(∃xs,Z7 M n=some xs∧Q (!xs.isEmpty))∨(∃xs,Zm M n=some xs∧Q (!xs.isEmpty))
 | _,_=>False
def ixD(M:Z2):D→D→(D→Prop)→Prop
 | .ref n,k,Q=>(∃xs i d,k= .int i∧Z7 M n=some xs∧atI xs i=some d∧Q d)∨(∃kvs y d,Pu M n=some kvs∧keyD k=some y∧valD kvs y=some d∧Q d)
 | .tup xs,.int i,Q=>∃d,atI xs i=some d∧Q d
 | .gtup xs,.int i,Q=>∃d,atI xs i=some d∧Q d
 | .str z,.int i,Q=>z.length≤sizeLine∧∃c,atI z.cps.toList i=some c∧Q (.str ⟨#[c]⟩)
 | _,_,_=>False
noncomputable def cutD{α:Type}(xs:List α)(lo hi:Option Int):List α:=(xs.drop (HT.sIx xs.length 0 lo)).take (HT.sIx xs.length xs.length hi - HT.sIx xs.length 0 lo)
def slD:D→Option Int→Option Int→Z2→DK→Prop
 | .str z,lo,hi,M,Q=>z.length≤sizeLine∧Q (.str (Txt.slice z lo hi)) M
 | .ref n,lo,hi,M,Q=>∃xs,Z7 M n=some xs∧Q (.ref M.length) (M++[.lst (cutD xs lo hi)])
 | .tup xs,lo,hi,M,Q=>¬(HT.sIx xs.length 0 lo=0∧HT.sIx xs.length xs.length hi=xs.length)∧Q (.tup (cutD xs lo hi)) M
 | _,_,_,_,_=>False
noncomputable def tyD(M:Z2):D→Option String
 | .non=>some "NoneType"
 | .bl _=>some "bool"
 | .int _=>some "int"
 | .str _=>some "str"
 | .tup _=>some "tuple"
 | .ref n=>match M[n]? with
  | some (.lst _)=>some "list"
  | some (.frz _)=>none
  | some (.dct _)=>some "dict"
  | some (.fdc _)=>none
  | none=>none
 | _=>none
def isD(K:PySem.W.Frag)(M:Z2):D→D→(Bool→Prop)→Prop
 | .exn _ C _ _,.cls c,Q=>∃b,ExcIs K C∧PySem.W.kitOne K (.ref C) (.ref c)=some b∧Q b
 | .exn _ C _ _,.ty c,Q=>∃b,ExcIs K C∧PySem.W.kitOne K (.ref C) (.type c)=some b∧Q b
 | .exn _ C _ _,.tup cs,Q=>∃(as:List Addr) (b:Bool),cs=as.map D.cls∧ExcIs K C∧PySem.W.kitAny K (.ref C) (as.map Value.ref)=some b∧Q b
 | d,.ty c,Q=>∃t b,tyD M d=some t∧PySem.W.kitOne K (.type t) (.type c)=some b∧Q b
 | _,_,_=>False
def lenD(x:D)(M:Z2)(Q:DK):Prop:=match x with
 | .ref n=>(∃xs,Z7 M n=some xs∧Q (.int xs.length) M)∨(∃xs,Zm M n=some xs∧Q (.int xs.length) M)
 | .tup xs=>Q (.int xs.length) M
 | .str x=>x.length≤sizeLine∧Q (.int x.length) M
 | _=>False
noncomputable def pD(p:Int×Int):D:= .tup [.int p.1,.int p.2]
def bfD(K:PySem.W.Frag)(b:Bf)(l:List D)(M:Z2)(Q:DK):Prop:=match b with
 | .len=>at1 l fun x=>lenD x M Q
 | .isinst=>at2 l fun d c=>isD K M d c fun b=>Q (.bl b) M
 | .min2=>at2 l fun x y=>Qp x y fun i j=>Q (.int (if j<i then j else i)) M
 | .max2=>at2 l fun x y=>Qp x y fun i j=>Q (.int (if j >i then j else i)) M
 | .min1=>at1 l fun x=>Sr x fun n=>∃ps:List (Int×Int),Z7 M n=some (ps.map pD)∧0<ps.length∧∀m,m∈ps→(∀q∈ps,MP.lex q m=false)→Q (pD m) M
 | .list1=>at1 l fun d=>∃xs,Z65 M d=some xs∧Q (.ref M.length) (M++[.lst xs])
 | .sortedL=>at1 l fun x=>Sr x fun n=>∃ns:List Int,Z7 M n=some (ns.map .int)∧ns.length<64∧∀ms:List Int,ms.Perm ns→ms.Pairwise (·≤·)→Q (.ref M.length) (M++[.lst (ms.map .int)])
 | .sorted1=>at1 l fun x=>Sr x fun n=>∃(kvs:List (Key×D)) (ns:List Int),Zm M n=some kvs∧kvs.map (·.1)=ns.map Sum.inl∧ns.length<64∧∀ms:List Int,ms.Perm ns→ms.Pairwise (·≤·)→Q (.ref M.length) (M++[.lst (ms.map .int)])
def setD(b:Bool)(n:Nat)(M:Z2)(Q:DK):Prop:=match b with
 | true=>∃ns:List Int,Z7 M n=some (ns.map .int)∧ns.length<64∧∀ms:List Int,ms.Pairwise (· < ·)→(∀i,i∈ms↔i∈ns)→Q (.ref M.length) (M++[.lst (ms.map .int)])
 | false=>∃ks:List Key,Z7 M n=some (ks.map kD)∧ks.length+1<scanBound∧∀ks':List Key,ks'.Nodup→(∀k,k∈ks'↔k∈ks)→Q (.int ks'.length) M
def mtD(m:Mt)(o:D)(l:List D)(M:Z2)(Q:DK):Prop:=Sr o fun n=>match m with
 | .append=>at1 l fun d=>∃xs,Zd M n=some xs∧xs.length<sizeLine∧Q .non (M.set n (.lst (xs++[d])))
 | .clearD=>at0 l (∃kvs,Zm M n=some kvs∧Q .non (M.set n (.dct [])))
 | .get2=>at2 l fun k z=>∃kvs y,Zm M n=some kvs∧keyD k=some y∧Q ((valD kvs y).getD z) M
 | .pop0=>at0 l (∃xs d,Zd M n=some xs∧xs[xs.length - 1]?=some d∧Q d (M.set n (.lst xs.dropLast)))
 | .index1=>at1 l fun d=>∃xs k z,Z7 M n=some xs∧Yq d=true∧xs.all Yq=true∧xs[k]?=some z∧eqF z d=true∧(∀(j:Nat) u,j<k→xs[j]?=some u→eqF u d=false)∧Q (.int k) M
 | .extend=>at1 l fun t=>Sr t fun m=>∃xs ys,Zd M n=some xs∧Zd M m=some ys∧xs.length+ys.length≤sizeLine∧Q .non (M.set n (.lst (xs++ys)))
def mtK(m:Mt)(o:D)(M:Z2):Prop:=Sr o fun n=>match m with
 | .clearD=>(Zm M n).isSome=true
 | .get2=>(Zm M n).isSome=true
 | _=>(Z7 M n).isSome=true
def tgD:List Nat→D→DEnv→(DEnv→Prop)→Prop
 | [i],d,σ,Q=>Q (σ.set i (some d))
 | is,.tup ds,σ,Q=>ds.length=is.length∧Q ((is.zip ds).foldl (fun σ p=>σ.set p.1 (some p.2)) σ)
 | _,_,_,_=>False
inductive Own where
 | no | lst (n:Nat) | enm (n:Nat) | dct (n:Nat) | two (n m:Nat)
noncomputable def Om(kvs:List (Key×D)):List D:=kvs.map fun p=>kD p.1
def Y14(n:Nat)(M:Z2)(Q:Z2→Prop):Prop:=∃kvs,M[n]?=some (.fdc kvs)∧Q (M.set n (.dct kvs))
noncomputable def Y87(n:Nat)(R:DEnds):DEnds:={nx:=fun σ M=>Y14 n M (R.nx σ),rt:=fun d M=>Y14 n M (R.rt d),bk:=fun _ _=>False,ct:=fun _ _=>False}
noncomputable def Nh(xs:List D):List D:=xs.mapIdx fun i d=> .tup [.int i,d]
noncomputable def zipT(ys zs:List D):List D:=(ys.zip zs).map fun p=>D.tup [p.1,p.2]
def itD(M:Z2):D→(Own→List D→Prop)→Prop
 | .ref n,R=>∃xs,Z7 M n=some xs∧R (.lst n) xs
 | .tup xs,R=>R .no xs
 | .gtup xs,R=>R .no xs
 | _,_=>False
noncomputable def Qq(lo:Int)(n:Nat):List D:=(List.range n).map fun(k:Nat)=>D.int (lo+(k:Int))
def O2(own:Own)(xs:List D)(M:Z2):Prop:=match own with
 | .lst n=>Z7 M n=some xs
 | .enm n=>∃ys,Z7 M n=some ys∧xs=Nh ys
 | .dct n=>∃kvs,M[n]?=some (.fdc kvs)∧xs=Om kvs
 | .two n m=>∃ys zs,Z7 M n=some ys∧Z7 M m=some zs∧xs=zipT ys zs
 | .no=>True
def forD(own:Own)(xs:List D)(tg:List Nat)(body:DS):List D→DEnds→DEnv→Z2→Prop
 | [],R,σ,M=>O2 own xs M∧R.nx σ M
 | d::r,R,σ,M=>O2 own xs M∧tgD tg d σ fun σ'=>body {nx:=fun σ2 M2=>forD own xs tg body r R σ2 M2,rt:=R.rt,bk:=R.nx,ct:=fun σ2 M2=>forD own xs tg body r R σ2 M2} σ' M
def Jq(own:Own)(xs:List D)(tg:List Nat)(cd:DT)(el:DE)(z:Nat):List D→DEnv→Z2→(Z2→Prop)→Prop
 | [],_,M,Q=>O2 own xs M∧Q M
 | d::r,σ,M,Q=>O2 own xs M∧tgD tg d σ fun σ'=>cd σ' M fun b M1=>if b=true then
   el σ' M1 fun y M2=>∃acc,Zd M2 z=some acc∧acc.length<sizeLine∧Jq own xs tg cd el z r σ' (M2.set z (.lst (acc++[y]))) Q
   else Jq own xs tg cd el z r σ' M1 Q
noncomputable def capD(js:List (Option Nat))(σ:DEnv):DEnv:=js.map fun o=>o.bind fun j=>(σ[j]?).join
abbrev noX:DX:=fun _ _ _=>False
structure Cfg where
 K:PySem.W.Frag
 Γ:List DSp
 G:List D
mutual
def te(c:Cfg)(X:DX):E→DE
 | .var i,σ,M,Q=>match σ[i]? with
  | some (some d)=>Q d M
  | _=>False
 | .int i,_,M,Q=>Q (.int i) M
 | .bl b,_,M,Q=>Q (.bl b) M
 | .non,_,M,Q=>Q .non M
 | .str x,_,M,Q=>Q (.str x) M
 | .ty n,_,M,Q=>Q (.ty (Xd n)) M
 | .glb k,_,M,Q=>match c.G[k]? with
  | some d=>Q d M
  | none=>False
 | .bin op a b,σ,M,Q=>te c X a σ M fun x M1=>te c X b σ M1 fun y M2=>opD op x y M2 Q
 | .not a,σ,M,Q=>te c X a σ M fun x M1=>truD M1 x fun b=>Q (.bl (!b)) M1
 | .cmp op a b,σ,M,Q=>te c X a σ M fun x M1=>te c X b σ M1 fun y M2=>cmD M2 op x y fun r=>Q (.bl r) M2
 | .bop k es,σ,M,Q=>tbop c X k es σ M Q
 | .ife t a b,σ,M,Q=>te c X t σ M fun x M1=>truD M1 x fun r=>if r=true then te c X a σ M1 Q else te c X b σ M1 Q
 | .lst es,σ,M,Q=>tes c X es σ M fun ds M1=>ds.length≤sizeLine∧Q (.ref M1.length) (M1++[.lst ds])
 | .tup es,σ,M,Q=>tes c X es σ M fun ds M1=>ds.length≤sizeLine∧Q (.tup ds) M1
 | .dict0,_,M,Q=>Q (.ref M.length) (M++[.dct []])
 | .dct2 a b d e,σ,M,Q=>te c X a σ (M++[.dct []]) fun x M1=>te c X b σ M1 fun y M2=>te c X d σ M2 fun x2 M3=>te c X e σ M3 fun y2 M4=>∃k k2,keyD x=some k∧keyD x2=some k2∧Zm M4 M.length=some []∧Q (.ref M.length) (M4.set M.length (.dct (putD [(k,y)] k2 y2)))
 | .dct a b,σ,M,Q=>te c X a σ (M++[.dct []]) fun x M1=>te c X b σ M1 fun y M2=>∃k,keyD x=some k∧Zm M2 M.length=some []∧Q (.ref M.length) (M2.set M.length (.dct [(k,y)]))
 | .ix a b,σ,M,Q=>te c X a σ M fun x M1=>te c X b σ M1 fun y M2=>ixD M2 x y fun d=>Q d M2
 | .sl a lo hi,σ,M,Q=>te c X a σ M fun x M1=>teo c X lo σ M1 fun l M2=>teo c X hi σ M2 fun h M3=>slD x l h M3 Q
 | .call f es,σ,M,Q=>tes c X es σ M fun ds M1=>match c.Γ[f]? with
  | some sp=>sp ds M1 Q X
  | none=>False
 | .bf b es,σ,M,Q=>tes c X es σ M fun ds M1=>bfD c.K b ds M1 Q
 | .setf b a,σ,M,Q=>te c X a σ M fun x M1=>Sr x fun n=>setD b n M1 Q
 | .rev a,σ,M,Q=>te c X a σ M fun x M1=>match x with
  | .ref n=>∃xs,Z7 M1 n=some xs∧Q (.ref M1.length) (M1++[.lst xs.reverse])
  | _=>False
 | .mt m o es,σ,M,Q=>te c X o σ M fun x M1=>mtK m x M1∧tes c X es σ M1 fun ds M2=>mtD m x ds M2 Q
 | .comp _ js tg it cd e,σ,M,Q=>tit c X it σ M fun own xs M1=>Jq own xs tg (tcd c noX cd) (te c noX e) M1.length xs (capD js σ) (M1++[.lst []]) fun M2=>Q (.ref M1.length) M2
def tbop(c:Cfg)(X:DX)(k:Bool):Es→DE
 | .nil,_,_,_=>False
 | .cons e .nil,σ,M,Q=>te c X e σ M Q
 | .cons e (.cons e2 r),σ,M,Q=>te c X e σ M fun x M1=>truD M1 x fun b=>if b=k then tbop c X k (.cons e2 r) σ M1 Q else Q x M1
def tes(c:Cfg)(X:DX):Es→DA
 | .nil,_,M,Q=>Q [] M
 | .cons e r,σ,M,Q=>te c X e σ M fun d M1=>tes c X r σ M1 fun ds M2=>Q (d::ds) M2
def teo(c:Cfg)(X:DX):Eo→DEnv→Z2→(Option Int→Z2→Prop)→Prop
 | .no,_,M,Q=>Q none M
 | .yes e,σ,M,Q=>te c X e σ M fun d M1=>match d with
  | .int i=>Q (some i) M1
  | _=>False
def tcd(c:Cfg)(X:DX):Eo→DT
 | .no,_,M,Q=>Q true M
 | .yes e,σ,M,Q=>te c X e σ M fun x M1=>truD M1 x fun b=>Q b M1
def tit(c:Cfg)(X:DX):It→DEnv→Z2→(Own→List D→Z2→Prop)→Prop
 | .seq e,σ,M,Q=>te c X e σ M fun d M1=>itD M1 d fun own xs=>Q own xs M1
 | .fro e,σ,M,Q=>te c X e σ M fun d M1=>match d with
  | .ref n=>∃kvs,M1[n]?=some (.fdc kvs)∧Q (.dct n) (Om kvs) M1
  | _=>False
 | .rng1 a,σ,M,Q=>te c X a σ M fun d M1=>match d with
  | .int j=> -(2 ^ 62)≤j∧j<2 ^ 62∧Q .no (Qq 0 j.toNat) M1
  | _=>False
 | .rng2 a b,σ,M,Q=>te c X a σ M fun d M1=>te c X b σ M1 fun d2 M2=>match d,d2 with
  | .int i,.int j=>(-(2 ^ 62)≤i∧i<2 ^ 62∧ -(2 ^ 62)≤j∧j<2 ^ 62)∧Q .no (Qq i (j - i).toNat) M2
  | _,_=>False
 | .enm e,σ,M,Q=>te c X e σ M fun d M1=>match d with
  | .ref n=>∃xs,Z7 M1 n=some xs∧Q (.enm n) (Nh xs) M1
  | _=>False
 | .zip es,σ,M,Q=>tes c X es σ M fun ds M1=>at2 ds fun a b=>Sr a fun n=>Sr b fun m=>∃ys zs,Z7 M1 n=some ys∧Z7 M1 m=some zs∧Q (.two n m) (zipT ys zs) M1
end
def tt(c:Cfg)(X:DX)(e:E):DT:=fun σ M Q=>te c X e σ M fun x M1=>truD M1 x fun b=>Q b M1
mutual
def ts(c:Cfg)(X:DX):S→DS
 | .ret e,R,σ,M=>te c X e σ M R.rt
 | .expr e,R,σ,M=>te c X e σ M fun _ M1=>R.nx σ M1
 | .set tg e,R,σ,M=>te c X e σ M fun d M1=>tgD tg d σ fun σ'=>R.nx σ' M1
 | .put o i v,R,σ,M=>te c X v σ M fun d M1=>te c X o σ M1 fun x M2=>te c X i σ M2 fun y M3=>match x with
  | .ref n=>(∃xs k j,y= .int k∧Zd M3 n=some xs∧ixN xs.length k=some j∧R.nx σ (M3.set n (.lst (xs.set j d))))∨
    (∃kvs k,Zm M3 n=some kvs∧keyD y=some k∧kvs.length<sizeLine∧R.nx σ (M3.set n (.dct (putD kvs k d))))
  | _=>False
 | .ite t a b,R,σ,M=>tt c X t σ M fun r M1=>if r=true then tss c X a R σ M1 else tss c X b R σ M1
 | .for_ tg it b,R,σ,M=>tit c X it σ M fun own xs M1=>forD own xs tg (tss c X b) xs R σ M1
 | .forK tg e b,R,σ,M=>te c X e σ M fun d M1=>match d with
  | .ref n=>∃kvs,Zm M1 n=some kvs∧forD (.dct n) (Om kvs) tg (tss c X b) (Om kvs) (Y87 n R) σ (M1.set n (.fdc kvs))
  | _=>False
 | .while_ t b,R,σ,M=>∃W:Nat→DEnv→Z2→Prop,(∃m,W m σ M)∧∀m σ M,W m σ M→tt c X t σ M fun r M1=>if r=true then
   tss c X b {nx:=fun σ2 M2=>∃m',m'<m∧W m' σ2 M2,rt:=R.rt,bk:=R.nx,ct:=fun σ2 M2=>∃m',m'<m∧W m' σ2 M2} σ M1 else R.nx σ M1
def tss(c:Cfg)(X:DX):Ss→DS
 | .nil,R,σ,M=>R.nx σ M
 | .cons s r,R,σ,M=>ts c X s {R with nx:=fun σ' M'=>tss c X r R σ' M'} σ M
end
def REnv(w:Vw)(σD:DEnv)(σ:L2.St):Prop:=σD.length=σ.length∧∀(i:Nat) d,σD[i]?=some (some d)→∃v,σ[i]?=some (some v)∧RD w d v
theorem REnv.ext{w w':Vw}{σD:DEnv}{σ:L2.St}(h:REnv w σD σ)(x:Ext w w'):REnv w' σD σ:=
 ⟨h.1,fun i d e=>by obtain⟨v,q,r⟩:=h.2 i d e;exact⟨v,q,r.ext x⟩⟩
theorem REnv.set{w:Vw}{σD:DEnv}{σ:L2.St}{d:D}{v:V}(h:REnv w σD σ)(i:Nat)(r:RD w d v):REnv w (σD.set i (some d)) (σ.set i (some v)):=by
 refine⟨by simp[h.1],fun j d' e=>?_⟩
 by_cases hj:i=j
 ·subst hj
  by_cases hl:i<σD.length
  ·rw[List.getElem?_set_self hl] at e
   cases e
   exact⟨v,by rw[List.getElem?_set_self (by rw[←h.1];exact hl)],r⟩
  ·rw[List.getElem?_eq_none (by simp;omega)] at e
   cases e
 ·rw[List.getElem?_set_ne hj] at e
  rw[List.getElem?_set_ne hj]
  exact h.2 j d' e
structure StOk(w0 w:Vw)(σD:DEnv)(M:Z2)(σ:L2.St)(H:Hp):Prop where
 heap:w.H=H
 ext:Ext w0 w
 rs:RS w M
 env:REnv w σD σ
theorem StOk.next{w0 w w':Vw}{σD:DEnv}{M M':Z2}{σ:L2.St}{H:Hp}(s:StOk w0 w σD M σ H)(x:Ext w w')(r:RS w' M'):StOk w0 w' σD M' σ w'.H:=
 ⟨rfl,s.ext.trans x,r,s.env.ext x⟩
def Aft(w:Vw)(QD:DK)(Q:VK):Prop:=∀v w' d M',Ext w w'→RS w' M'→RD w' d v→QD d M'→Q v w'.H
def tF(w0:Vw)(f:DE):TE:=fun σ H Q=>∃w σD M QD,StOk w0 w σD M σ H∧f σD M QD∧Aft w QD Q
def tFA(w0:Vw)(f:DA):TA:=fun σ H Q=>∃w σD M QD,StOk w0 w σD M σ H∧f σD M QD∧∀vs w' ds M',Ext w w'→RS w' M'→RDs w' ds vs→QD ds M'→Q vs w'.H
def tFT(w0:Vw)(f:DT):TT:=fun σ H Q=>∃w σD M QD,StOk w0 w σD M σ H∧f σD M QD∧∀b w' M',Ext w w'→RS w' M'→QD b M'→Q b w'.H
def tFO(w0:Vw)(f:DEnv→Z2→(Option Int→Z2→Prop)→Prop):TO:=fun σ H Q=>∃w σD M QD,StOk w0 w σD M σ H∧f σD M QD∧∀b w' M',Ext w w'→RS w' M'→QD b M'→Q b w'.H
def tFS(w0:Vw)(f:DS):TS:=fun R σ H=>∃w σD M RD',StOk w0 w σD M σ H∧f RD' σD M∧
 (∀σ' w' σD' M',Ext w w'→RS w' M'→REnv w' σD' σ'→RD'.nx σD' M'→R.nx σ' w'.H)∧Aft w RD'.rt R.rt∧
 (∀σ' w' σD' M',Ext w w'→RS w' M'→REnv w' σD' σ'→RD'.bk σD' M'→R.bk σ' w'.H)∧
 (∀σ' w' σD' M',Ext w w'→RS w' M'→REnv w' σD' σ'→RD'.ct σD' M'→R.ct σ' w'.H)
def xkOf(w:Vw)(Z:DX):XK:=fun cls dd H'=>∃C dx r w' row M',cls= .ref C∧dd=some dx∧w'.H=H'∧Ext w w'∧RS w' M'∧H' dx=some (.xd [("row",r)])∧RD w' row r∧Z C row M'
def spF(K:PySem.W.Frag)(sp:DSp):Sp:=fun vs H Q E=>∃w ds M QD Z,w.K=K∧w.H=H∧RS w M∧RDs w ds vs∧sp ds M QD Z∧Aft w QD Q∧∀cls dd H',xkOf w Z cls dd H'→E cls dd H'
theorem Aft.ext{w w':Vw}{QD:DK}{Q:VK}(h:Aft w QD Q)(x:Ext w w'):Aft w' QD Q:=fun v w2 d M y r q p=>h v w2 d M (x.trans y) r q p
section
variable{X:Cx}{e:Expr}{w0:Vw}
theorem PE.imp{t t':TE}(h:PE X e t)(k:∀σ H Q,t' σ H Q→t σ H Q):PE X e t':=fun pins s σ H Q I q=>h pins s σ H Q I (k σ H Q q)
theorem PT.imp{t t':TT}(h:PT X e t)(k:∀σ H Q,t' σ H Q→t σ H Q):PT X e t':=fun pins s σ H Q I q=>h pins s σ H Q I (k σ H Q q)
theorem PA.imp{es:List Expr}{t t':TA}(h:PA X es t)(k:∀σ H Q,t' σ H Q→t σ H Q):PA X es t':=fun pos pins s σ H Q I q=>h pos pins s σ H Q I (k σ H Q q)
theorem PS.imp{st:Stmt}{t t':TS}(h:PS X st t)(k:∀R σ H,t' R σ H→t R σ H):PS X st t':=fun pins s σ H R I q=>h pins s σ H R I (k R σ H q)
theorem PSs.imp{st:List Stmt}{t t':TS}(h:PSs X st t)(k:∀R σ H,t' R σ H→t R σ H):PSs X st t':=fun pins s σ H R I q=>h pins s σ H R I (k R σ H q)
end
def rF(w0:Vw)(g:D→D→Z2→DK→Prop):R2:=fun x y H Q=>∃w M dx dy QD,w.H=H∧Ext w0 w∧RS w M∧RD w dx x∧RD w dy y∧g dx dy M QD∧Aft w QD Q
theorem Ze{w:Vw}{i:Int}{v:V}:RD w (.int i) v↔v= .int i:=by unfold RD;exact Iff.rfl
theorem Y4{w:Vw}{i:Str}{v:V}:RD w (.str i) v↔v= .str i:=by unfold RD;exact Iff.rfl
theorem Xs{w:Vw}{i:Bool}{v:V}:RD w (.bl i) v↔v= .bl i:=by unfold RD;exact Iff.rfl
theorem Zt{w:Vw}{v:V}:RD w .non v↔v= .non:=by unfold RD;exact Iff.rfl
theorem Zn9{w:Vw}{n:String}{v:V}:RD w (.ty n) v↔v= .ty n:=by unfold RD;exact Iff.rfl
theorem Zk3{w:Vw}{n:Addr}{v:V}:RD w (.cls n) v↔v= .ref n:=by unfold RD;exact Iff.rfl
theorem Zh{w:Vw}{i:Nat}{v:V}:RD w (.ref i) v↔i<w.n∧v= .ref (w.μ i):=by unfold RD;exact Iff.rfl
theorem Xe{w:Vw}{ds:List D}{v:V}:RD w (.tup ds) v↔∃a vs,v= .ref a∧w.H a=some (.tup vs)∧RDs w ds vs:=by unfold RD;exact Iff.rfl
theorem Og{w:Vw}{ds:List D}{v:V}:RD w (.gtup ds) v↔∃a vs,v= .ref a∧SqT w.K w.H a vs∧RDs w ds vs:=by unfold RD;exact Iff.rfl
theorem Nr{w:Vw}{e C dx:Addr}{row:D}{v:V}:RD w (.exn e C dx row) v↔v= .ref e∧w.H e=some (XO e (.ref C) (some dx))∧∃r,w.H dx=some (.xd [("row",r)])∧RD w row r:=Iff.of_eq (by rw[RD])
theorem RDs.empty{w:Vw}{ds:List D}(h:RDs w ds []):ds=[]:=by
 have:=h.length
 exact List.length_eq_zero_iff.mp this.symm
theorem Zp7{M:Z2}{n:Nat}{xs:List D}(h:Zd M n=some xs):Z7 M n=some xs:=by
 unfold Zd at h
 unfold Z7
 split at h
 ·rename_i e;rw[e];exact h
 ·cases h
theorem Wi{M:Z2}{n:Nat}{xs:List D}(h:Zd M n=some xs):M[n]?=some (.lst xs):=by
 unfold Zd at h
 split at h
 ·rename_i e;rw[e];cases h;rfl
 ·cases h
theorem Wm{M:Z2}{n:Nat}{xs:List (Key×D)}(h:Zm M n=some xs):M[n]?=some (.dct xs):=by
 unfold Zm at h
 split at h
 ·rename_i e;rw[e];cases h;rfl
 ·cases h
theorem RS.list{w:Vw}{M:Z2}{n:Nat}{xs:List D}(R:RS w M)(h:Zd M n=some xs):M[n]?=some (.lst xs)∧∃vs,w.H (w.μ n)=some (.lst vs)∧RDs w xs vs:=
 ⟨Wi h,R.cell n _ (Wi h)⟩
theorem RS.listL{w:Vw}{M:Z2}{n:Nat}{xs:List D}(R:RS w M)(h:Z7 M n=some xs):n<w.n∧∃vs,SqL w.K w.H (w.μ n) vs∧RDs w xs vs∧True:=by
 unfold Z7 at h
 split at h
 ·rename_i ys e
  cases h
  obtain⟨vs,q,r⟩:=R.cell n _ e
  exact⟨by rw[R.len];exact(List.getElem?_eq_some_iff.mp e).1,vs,.inl (.inl q),r,trivial⟩
 ·rename_i ys e
  cases h
  obtain⟨vs,q,r⟩:=R.cell n _ e
  exact⟨by rw[R.len];exact(List.getElem?_eq_some_iff.mp e).1,vs,q.sq,r,trivial⟩
 ·cases h
theorem Zv6{M:Z2}{n:Nat}{xs:List (Key×D)}(h:Zm M n=some xs):Pu M n=some xs:=by
 unfold Pu;rw[Wm h]
theorem RS.dictF{w:Vw}{M:Z2}{n:Nat}{xs:List (Key×D)}(R:RS w M)(h:Pu M n=some xs):∃vs,Rd w.H (w.μ n) (.dK vs)∧RKV w xs vs:=by
 unfold Pu at h
 split at h
 ·rename_i ys e
  cases h
  obtain⟨vs,q1,q2⟩:=R.cell n _ e
  exact⟨vs,.inl q1,q2⟩
 ·rename_i ys e
  cases h
  obtain⟨o,vs,q1,q2⟩:=R.cell n _ e
  exact⟨vs,.inr ⟨o,q1⟩,q2⟩
 ·cases h
theorem RS.dict{w:Vw}{M:Z2}{n:Nat}{xs:List (Key×D)}(R:RS w M)(h:Zm M n=some xs):M[n]?=some (.dct xs)∧∃vs,w.H (w.μ n)=some (.dK vs)∧RKV w xs vs:=
 ⟨Wm h,R.cell n _ (Wm h)⟩
theorem Xi{w:Vw}{M:Z2}{p:Addr}{xs:List D}{vs:List V}(R:RS w M)(hp:w.H p=none)(r:RDs w xs vs):Ext w (w.push p (.lst vs))∧RS (w.push p (.lst vs)) (M++[.lst xs])∧RD (w.push p (.lst vs)) (.ref M.length) (.ref p):=by
 refine⟨Ta hp,R.push hp ⟨vs,Zw,r.ext (Ta hp)⟩,Zh.mpr ⟨?_,?_⟩⟩
 ·show M.length<w.n+1
  rw[R.len];omega
 ·show V.ref p=V.ref (if M.length=w.n then p else w.μ M.length)
  rw[if_pos R.len.symm]
theorem Pz{w:Vw}{M:Z2}{p:Addr}{xs:List (Key×D)}{vs:List (Key×V)}(R:RS w M)(hp:w.H p=none)(r:RKV w xs vs):Ext w (w.push p (.dK vs))∧RS (w.push p (.dK vs)) (M++[.dct xs])∧RD (w.push p (.dK vs)) (.ref M.length) (.ref p):=by
 refine⟨Ta hp,R.push hp ⟨vs,Zw,r.ext (Ta hp)⟩,Zh.mpr ⟨?_,?_⟩⟩
 ·show M.length<w.n+1
  rw[R.len];omega
 ·show V.ref p=V.ref (if M.length=w.n then p else w.μ M.length)
  rw[if_pos R.len.symm]
theorem Rm{w:Vw}{M:Z2}{p:Addr}{xs:List D}{vs:List V}(R:RS w M)(hp:w.H p=none)(r:RDs w xs vs):Ext w (w.alloc p (.tup vs))∧RS (w.alloc p (.tup vs)) M∧RD (w.alloc p (.tup vs)) (.tup xs) (.ref p):=
 ⟨Vd hp,R.alloc hp,Xe.mpr ⟨p,vs,rfl,Zw,r.ext (Vd hp)⟩⟩
theorem We{w:Vw}{M:Z2}{n:Nat}{us vs:List V}{ys xs:List D}(R:RS w M)(hn:M[n]?=some (.lst ys))(h:w.H (w.μ n)=some (.lst us))(r:RDs w xs vs):Ext w (w.alloc (w.μ n) (.lst vs))∧RS (w.alloc (w.μ n) (.lst vs)) (M.set n (.lst xs)):=
 ⟨Wf h rfl,R.write hn rfl rfl h rfl ⟨vs,Zw,r.ext (Wf h rfl)⟩⟩
theorem Vf{w:Vw}{M:Z2}{n:Nat}{us vs:List (Key×V)}{ys xs:List (Key×D)}(R:RS w M)(hn:M[n]?=some (.dct ys))(h:w.H (w.μ n)=some (.dK us))(r:RKV w xs vs):Ext w (w.alloc (w.μ n) (.dK vs))∧RS (w.alloc (w.μ n) (.dK vs)) (M.set n (.dct xs)):=
 ⟨Wf h rfl,R.write hn rfl rfl h rfl ⟨vs,Zw,r.ext (Wf h rfl)⟩⟩
section
variable{X:Cx}{w0:Vw}
theorem S6{f:Value→Value→Sem Value}{g:Int→Int→V}{o:D→D→Z2→DK→Prop}{C:Int→Int→Prop}{k:Int→Int→D}(h:OpR X f (rI C g))(hk:∀w i j,RD w (k i j) (g i j))
  {pins:List (Addr×Obj)} {s:Shared} {σ:L2.St} {x y:V} {v u:Value} {Q:VK} {w:Vw} {M:Z2} {QD:DK} {i j:Int} (I:Inv X pins σ w.H s) (rx:RelV x v) (ry:RelV y u) (R:RS w M) (hx:RD w (.int i) x) (hy:RD w (.int j) y)
  (hc:C i j) (q:QD (k i j) M) (a:Aft w QD Q):wpAny (model X.prog X.w) X.A (f v u) (EP X pins σ Q) X.xe s:=by
 cases Ze.mp hx
 cases Ze.mp hy
 exact h pins s σ w.H _ _ v u Q I rx ry ⟨i,j,rfl,rfl,hc,a _ w _ M (Ext.refl w) R (hk w i j) q⟩
noncomputable def opOf:Op→Operator
 | .add=> .Add | .sub=> .Sub | .mul=> .Mult | .fdiv=> .FloorDiv | .mod=> .Mod | .pow=> .Pow
theorem Zy2{f:Value→Value→Sem Value}{g:Int→Int→V}(h:OpR X f (rI0 g)):OpR X f (rI (fun _ _=>True) g):=fun pins s σ H x y v u Q I rx ry zz68=>by obtain⟨i,j,e1,e2,_,q⟩:=zz68;exact h pins s σ H x y v u Q I rx ry ⟨i,j,e1,e2,q⟩
theorem RDs.rep{w:Vw}{xs:List D}{vs:List V}(h:RDs w xs vs):∀n:Nat,RDs w (List.replicate n xs).flatten (List.replicate n vs).flatten
 | 0=>RDs.nil w
 | n+1=>by
  rw[List.replicate_succ,List.replicate_succ,List.flatten_cons,List.flatten_cons]
  exact h.append (RDs.rep h n)
theorem Zh1(op:Op):OpR X (binaryOp (opOf op)) (rF w0 (opD op)):=by
 intro pins s σ H x y v u Q I rx ry h
 obtain⟨w,M,dx,dy,QD,rfl,e0,R,hx,hy,g,a⟩:=h
 have ri:∀w (i:Int),RD w (.int i) (.int i):=fun w i=>Ze.mpr rfl
 cases op with
 | add=>
  cases dx with
  | int i=>
   obtain⟨j,rfl,g2⟩:=Wz g;clear g;have g:=g2
   exact S6 (o:=opD .add) (C:=fun _ _=>True) (k:=fun i j=> .int (i+j)) (Zy2 Y30) (fun w i j=>ri w _) I rx ry R hx hy trivial g a
  | str z=>
   cases dy with
   | str z2=>
    cases Y4.mp hx;cases Y4.mp hy
    exact B5 pins s σ w.H _ _ v u Q I rx ry ⟨_,_,rfl,rfl,g.1,a _ w _ M (Ext.refl w) R (Y4.mpr rfl) g.2⟩
   | _=>exact False.elim g
  | tup l=>
   obtain⟨l2,rfl,g2⟩:=Z87 g;clear g;have g:=g2
   obtain⟨a1,vs1,rfl,h1,r1⟩:=Xe.mp hx
   obtain⟨a2,vs2,rfl,h2,r2⟩:=Xe.mp hy
   obtain⟨g1,g2,g3⟩:=g
   refine Zs3 pins s σ w.H _ _ v u Q I rx ry ⟨a1,a2,vs1,vs2,rfl,rfl,.of h1,.of h2,?_,by rw[r1.length,r2.length];exact g2,fun z=>?_,fun _ p hp=>?_⟩
   ·intro z;subst z;have:=r1.length;simp at this;exact g1 (List.length_eq_zero_iff.mp this.symm)
   ·subst z
    cases r2.empty
    rw[List.append_nil] at g3
    exact a _ w _ M (Ext.refl w) R hx g3
   ·obtain⟨x1,x2,x3⟩:=Rm R hp (r1.append r2)
    exact a _ _ _ M x1 x2 x3 g3
  | ref n=>
   obtain⟨n2,rfl,g2⟩:=Ys g;clear g;have g:=g2
   obtain⟨h1,rfl⟩:=Zh.mp hx
   obtain⟨h2,rfl⟩:=Zh.mp hy
   obtain⟨xs,ys,g1,g2,g3,g4⟩:=g
   obtain⟨_,vs1,q1,r1⟩:=R.list g1
   obtain⟨_,vs2,q2,r2⟩:=R.list g2
   refine Y33 pins s σ w.H _ _ v u Q I rx ry ⟨_,_,vs1,vs2,rfl,rfl,q1,q2,by rw[r1.length,r2.length];exact g3,fun p hp=>?_⟩
   obtain⟨x1,x2,x3⟩:=Xi R hp (r1.append r2)
   exact a _ _ _ _ x1 x2 x3 g4
  | _=>exact False.elim g
 | mul=>
  cases dx with
  | int i=>
   obtain⟨j,rfl,g2⟩:=Wz g;clear g;have g:=g2
   exact S6 (o:=opD .add) (C:=IntMulOk) (k:=fun i j=> .int (i * j)) Zo1 (fun w i j=>ri w _) I rx ry R hx hy g.1 g.2 a
  | ref n=>
   obtain⟨k,rfl,g2⟩:=Wz g;clear g;have g:=g2
   obtain⟨h1,rfl⟩:=Zh.mp hx
   cases Ze.mp hy
   obtain⟨xs,g1,g2,g3,g4,g5⟩:=g
   obtain⟨_,vs1,q1,r1⟩:=R.list g1
   refine Y26 pins s σ w.H _ _ v u Q I rx ry ⟨_,_,vs1,rfl,rfl,q1,by omega,by omega,by rw[r1.length];exact g4,fun p hp=>?_⟩
   obtain⟨x1,x2,x3⟩:=Xi R hp (r1.rep _)
   exact a _ _ _ _ x1 x2 x3 g5
  | _=>exact False.elim g
 | sub=>
  obtain⟨i,j,rfl,rfl,g2⟩:=Xb g;clear g;have g:=g2
  exact S6 (o:=opD .add) (C:=fun _ _=>True) (k:=fun i j=> .int (i - j)) (Zy2 Y48) (fun w i j=>ri w _) I rx ry R hx hy trivial g a
 | fdiv=>
  obtain⟨i,j,rfl,rfl,g2⟩:=Xb g;clear g;have g:=g2
  exact S6 (o:=opD .add) (C:=Ev) (k:=fun i j=> .int (qdiv i j)) Zg8 (fun w i j=>by rw[Zu8];exact ri w _) I rx ry R hx hy g.1 g.2 a
 | mod=>
  obtain⟨i,j,rfl,rfl,g2⟩:=Xb g;clear g;have g:=g2
  exact S6 (o:=opD .add) (C:=fun _ j=>j≠0) (k:=fun i j=> .int (qmod i j)) Zm6 (fun w i j=>by rw[Zl9];exact ri w _) I rx ry R hx hy g.1 g.2 a
 | pow=>
  obtain⟨i,j,rfl,rfl,g2⟩:=Xb g;clear g;have g:=g2
  exact S6 (o:=opD .add) (C:=CPow) (k:=fun i j=> .int (i ^ j.toNat)) Zy0 (fun w i j=>ri w _) I rx ry R hx hy g.1 g.2 a
end
def rB(w0:Vw)(g:Z2→D→D→(Bool→Prop)→Prop):R2:=fun x y H Q=>∃w M dx dy QD,w.H=H∧w.K=w0.K∧RS w M∧RD w dx x∧RD w dy y∧g M dx dy QD∧∀b,QD b→Q (.bl b) H
mutual
theorem Bj{w:Vw}{M:Z2}(R:RS w M):∀(da:PyData) {d:D} {v:V},PD M da d→RD w d v→Rep w.K w.H da v
 | .none,d,v,h,r=>by unfold PD at h;subst h;unfold Rep;exact Zt.mp r
 | .bool b,d,v,h,r=>by unfold PD at h;subst h;unfold Rep;exact Xs.mp r
 | .int b,d,v,h,r=>by unfold PD at h;subst h;unfold Rep;exact Ze.mp r
 | .str b,d,v,h,r=>by unfold PD at h;subst h;unfold Rep;exact Y4.mp r
 | .list xs,d,v,h,r=>by
  unfold PD at h
  obtain⟨n,ds,rfl,h1,h2⟩:=h
  obtain⟨_,rfl⟩:=Zh.mp r
  obtain⟨_,vs,q1,q2,_⟩:=R.listL h1
  unfold Rep
  exact⟨_,vs,rfl,q1,Rl R xs h2 q2⟩
 | .tuple xs,d,v,h,r=>by
  unfold PD at h
  obtain⟨ds,rfl,h2⟩:=h
  obtain⟨a,vs,rfl,q1,q2⟩:=Xe.mp r
  unfold Rep
  exact⟨_,vs,rfl,.of q1,Rl R xs h2 q2⟩
 | .dict _,d,v,h,r=>by unfold PD at h;exact h.elim
theorem Rl{w:Vw}{M:Z2}(R:RS w M):∀(xs:List PyData) {ds:List D} {vs:List V},PDs M xs ds→RDs w ds vs→Wg w.K w.H xs vs
 | [],ds,vs,h,r=>by unfold PDs at h;subst h;unfold RDs at r;unfold Wg;exact r
 | x::xs,ds,vs,h,r=>by
  unfold PDs at h
  obtain⟨d,r',rfl,h1,h2⟩:=h
  unfold RDs at r
  obtain⟨v,r2,rfl,q1,q2⟩:=r
  unfold Wg
  exact⟨v,r2,rfl,Bj R x h1 q1,Rl R xs h2 q2⟩
end
theorem Rh{w:Vw}{d:D}{v:V}(f:Yq d=true)(r:RD w d v):Tp v=true:=by
 cases d<;>simp[Yq] at f
 ·cases Zt.mp r;rfl
 ·cases Xs.mp r;rfl
 ·cases Ze.mp r;rfl
 ·cases Y4.mp r;rfl
theorem Gk{w:Vw}{d e:D}{v u:V}(f:Yq d=true)(g:Yq e=true)(r:RD w d v)(q:RD w e u):eqV v u=eqF d e:=by
 cases d<;>simp[Yq] at f
 all_goals (cases e<;>simp[Yq] at g)
 all_goals first
  |(first | cases Zt.mp r | cases Xs.mp r | cases Ze.mp r | cases Y4.mp r)
 all_goals first
  |(first | cases Zt.mp q | cases Xs.mp q | cases Ze.mp q | cases Y4.mp q)
 all_goals rfl
theorem Bh{w:Vw}{x:D}{v:V}(f:Yq x=true)(r:RD w x v):∀{ds:List D} {vs:List V},ds.all Yq=true→RDs w ds vs→inV v vs=inD x ds∧vs.all Tp=true
 | [],vs,_,h=>by unfold RDs at h;subst h;exact⟨rfl,rfl⟩
 | d::ds,vs,g,h=>by
  unfold RDs at h
  obtain⟨v1,r1,rfl,h1,h2⟩:=h
  simp only[List.all_cons,Bool.and_eq_true] at g
  obtain⟨i1,i2⟩:=Bh f r g.2 h2
  refine⟨?_,by simp only[List.all_cons,Bool.and_eq_true];exact⟨Rh g.1 h1,i2⟩⟩
  unfold inV inD at *
  rw[List.any_cons,List.any_cons,Gk g.1 f h1 r,i1]
theorem RKV.val{w:Vw}:∀{ds:List (Key×D)} {vs:List (Key×V)} (k:Key),RKV w ds vs→(valD ds k=none∧valV vs k=none)∨∃d v,valD ds k=some d∧valV vs k=some v∧RD w d v
 | [],vs,k,h=>by unfold RKV at h;subst h;exact .inl ⟨rfl,rfl⟩
 |(k',d)::ds,vs,k,h=>by
  unfold RKV at h
  obtain⟨v,r,rfl,h1,h2⟩:=h
  by_cases e:k'=k
  ·exact .inr ⟨d,v,by simp[valD,List.find?_cons,e],by simp[valV,List.find?_cons,e],h1⟩
  ·have:=RKV.val k h2
   simpa[valD,valV,List.find?_cons,e] using this
theorem RKV.length{w:Vw}:∀{ds:List (Key×D)} {vs:List (Key×V)},RKV w ds vs→vs.length=ds.length
 | [],vs,h=>by unfold RKV at h;subst h;rfl
 |(k',d)::ds,vs,h=>by
  unfold RKV at h
  obtain⟨v,r,rfl,h1,h2⟩:=h
  simp[RKV.length h2]
theorem RKV.any{w:Vw}(k:Key):∀{ds:List (Key×D)} {vs:List (Key×V)},RKV w ds vs→(vs.any fun kv=>decide (kv.1=k))=(ds.any fun kv=>decide (kv.1=k))
 | [],vs,h=>by unfold RKV at h;subst h;rfl
 |(k',d)::ds,vs,h=>by
  unfold RKV at h
  obtain⟨v,r,rfl,h1,h2⟩:=h
  simp[RKV.any k h2]
theorem RKV.repl{w:Vw}{k:Key}{d:D}{v:V}(q:RD w d v):∀{ds:List (Key×D)} {vs:List (Key×V)},RKV w ds vs→RKV w (ds.map fun kv=>if kv.1=k then(kv.1,d) else kv) (vs.map fun kv=>if kv.1=k then(kv.1,v) else kv)
 | [],vs,h=>by unfold RKV at h;subst h;unfold RKV;rfl
 |(k',d')::ds,vs,h=>by
  unfold RKV at h
  obtain⟨v',r,rfl,h1,h2⟩:=h
  simp only[List.map_cons]
  by_cases e:k'=k
  ·rw[if_pos e,if_pos e]
   unfold RKV
   exact⟨v,_,rfl,q,RKV.repl q h2⟩
  ·rw[if_neg e,if_neg e]
   unfold RKV
   exact⟨v',_,rfl,h1,RKV.repl q h2⟩
theorem RKV.snoc{w:Vw}{k:Key}{d:D}{v:V}(q:RD w d v):∀{ds:List (Key×D)} {vs:List (Key×V)},RKV w ds vs→RKV w (ds++[(k,d)]) (vs++[(k,v)])
 | [],vs,h=>by unfold RKV at h;subst h;unfold RKV;exact⟨v,[],rfl,q,by unfold RKV;rfl⟩
 |(k',d')::ds,vs,h=>by
  unfold RKV at h
  obtain⟨v',r,rfl,h1,h2⟩:=h
  show RKV w ((k',d')::(ds++[(k,d)])) _
  unfold RKV
  exact⟨v',_,rfl,h1,RKV.snoc q h2⟩
theorem RKV.put{w:Vw}{k:Key}{d:D}{v:V}(q:RD w d v){ds:List (Key×D)}{vs:List (Key×V)}(h:RKV w ds vs):RKV w (putD ds k d) (putK vs k v):=by
 unfold putD putK
 rw[h.any k]
 split
 ·exact h.repl q
 ·exact h.snoc q
theorem Vu{w:Vw}{d:D}{k:Key}{v:V}(h:keyD d=some k)(r:RD w d v):v=kV k:=by
 cases d<;>simp[keyD] at h
 ·subst h;exact Ze.mp r
 ·subst h;exact Y4.mp r
section
variable{X:Cx}{w0:Vw}
noncomputable def cmOf:Cm→CmpOp
 | .lt=> .Lt | .le=> .LtE | .gt=> .Gt | .eq=> .Eq | .ne=> .NotEq | .is=> .Is | .isnot=> .IsNot | .isin=> .In | .notin=> .NotIn
theorem Zx0(hu:X.A.units+64<cLine):OpR X (compareOp .NotEq) (rEqD X.K true):=by
 intro pins s σ H x y v u Q I rx ry h
 obtain⟨da,db,h1,h2,h3,h4,h5,q⟩:=h
 obtain⟨as,q1⟩:=Rep.reads I da x v h1 rx
 obtain⟨bs,q2⟩:=Rep.reads I db y u h2 ry
 exact PySem.SeqAt.compareNe_reads q1 q2 h3 h4 (by omega) ⟨.bl _,H,I,rfl,q⟩
theorem Fk(hK:X.K=w0.K)(hu:X.A.units+64<cLine)(neg:Bool):OpR X (compareOp (if neg then .NotEq else .Eq)) (rB w0 fun M x y Q=>eqD M x y fun b=>Q (if neg then !b else b)):=by
 intro pins s σ H x y v u Q I rx ry h
 obtain⟨w,M,dx,dy,QD,rfl,e0,R,hx,hy,g,a⟩:=h
 have key:∀b:Bool,(scal x y=true∧decide (x=y)=b)→QD (if neg then !b else b)→wpAny (model X.prog X.w) X.A (compareOp (if neg then .NotEq else .Eq) v u) (EP X pins σ Q) X.xe s:=by
  rintro b ⟨h1,h2⟩ hq
  cases neg with
  | true=>exact Y59 pins s σ w.H x y v u Q I rx ry ⟨h1,by rw[h2];exact a _ hq⟩
  | false=>exact Y53 pins s σ w.H x y v u Q I rx ry ⟨h1,by rw[h2];exact a _ hq⟩
 unfold eqD at g
 split at g
 ·cases Ze.mp hx;cases Ze.mp hy
  exact key _ ⟨rfl,by simp⟩ g
 ·cases Y4.mp hx;cases Y4.mp hy
  exact key _ ⟨rfl,by simp⟩ g
 ·cases Xs.mp hx;cases Xs.mp hy
  exact key _ ⟨rfl,by simp⟩ g
 ·cases Zt.mp hx;cases Zt.mp hy
  exact key _ ⟨rfl,by simp⟩ g
 ·cases Zt.mp hx;cases Ze.mp hy
  exact key _ ⟨rfl,by simp⟩ g
 ·cases Ze.mp hx;cases Zt.mp hy
  exact key _ ⟨rfl,by simp⟩ g
 ·cases Zt.mp hx;cases Xs.mp hy
  exact key _ ⟨rfl,by simp⟩ g
 ·cases Xs.mp hx;cases Zt.mp hy
  exact key _ ⟨rfl,by simp⟩ g
 ·cases Zt.mp hx;cases Y4.mp hy
  exact key _ ⟨rfl,by simp⟩ g
 ·cases Y4.mp hx;cases Zt.mp hy
  exact key _ ⟨rfl,by simp⟩ g
 ·cases Ze.mp hx;cases Y4.mp hy
  exact key _ ⟨rfl,by simp⟩ g
 ·cases Y4.mp hx;cases Ze.mp hy
  exact key _ ⟨rfl,by simp⟩ g
 ·cases Xs.mp hx;cases Y4.mp hy
  exact key _ ⟨rfl,by simp⟩ g
 ·cases Y4.mp hx;cases Xs.mp hy
  exact key _ ⟨rfl,by simp⟩ g
 ·rcases g with⟨da,db,p1,p2,p3,p4,p5,g⟩ | g
  ·have q1:=Bj R da p1 hx
   have q2:=Bj R db p2 hy
   rw[e0,←hK] at q1 q2
   cases neg with
   | true=>exact Zx0 hu pins s σ w.H x y v u Q I rx ry ⟨da,db,q1,q2,p3,p4,p5,a _ g⟩
   | false=>exact Y47 hu pins s σ w.H x y v u Q I rx ry ⟨da,db,q1,q2,p3,p4,p5,a _ g⟩
  ·exact g.elim
theorem Fq(hK:X.K=w0.K)(hu:X.A.units+64<cLine)(neg:Bool):OpR X (compareOp (if neg then .NotIn else .In)) (rB w0 fun M x y Q=>inQ M x y fun b=>Q (if neg then !b else b)):=by
 intro pins s σ H x y v u Q I rx ry h
 obtain⟨w,M,dx,dy,QD,rfl,e0,R,hx,hy,g,a⟩:=h
 have seq:∀{p:Addr} {vs:List V} {xs:List D},y= .ref p→(SqL X.K w.H p vs∨SqT X.K w.H p vs)→RDs w xs vs→Yq dx=true→xs.all Yq=true→QD (if neg then !inD dx xs else inD dx xs)→
   wpAny (model X.prog X.w) X.A (compareOp (if neg then .NotIn else .In) v u) (EP X pins σ Q) X.xe s:=by
  intro p vs xs ey q1 q2 g2 g3 g4
  obtain⟨i1,i2⟩:=Bh g2 hx g3 q2
  cases neg with
  | true=>exact J1 pins s σ w.H _ _ v u Q I rx ry ⟨p,vs,ey,q1,Rh g2 hx,i2,by rw[i1];exact a _ g4⟩
  | false=>exact Z49 pins s σ w.H _ _ v u Q I rx ry ⟨p,vs,ey,q1,Rh g2 hx,i2,by rw[i1];exact a _ g4⟩
 unfold inQ at g
 split at g
 ·cases Y4.mp hx;cases Y4.mp hy
  cases neg with
  | true=>exact N6 pins s σ w.H _ _ v u Q I rx ry ⟨_,_,rfl,rfl,a _ g⟩
  | false=>exact Z45 pins s σ w.H _ _ v u Q I rx ry ⟨_,_,rfl,rfl,a _ g⟩
 ·obtain⟨_,rfl⟩:=Zh.mp hy
  rcases g with⟨xs,g1,g2,g3,g4⟩ | ⟨kvs,k,g1,g2,g3⟩
  ·obtain⟨_,vs,q1,q2,_⟩:=R.listL g1
   rw[e0,←hK] at q1
   exact seq rfl (.inl q1) q2 g2 g3 g4
  ·obtain⟨_,vs,q1,q2⟩:=R.dict g1
   cases Vu g2 hx
   cases (show u=Value.ref _ from ry)
   have hv:valV vs k=none∧valD kvs k=none∨∃d v',valD kvs k=some d∧valV vs k=some v':=by
    rcases q2.val k with⟨n1,n2⟩ | ⟨d,v',n1,n2,_⟩
    ·exact .inl ⟨n2,n1⟩
    ·exact .inr ⟨d,v',n1,n2⟩
   have hb:(valV vs k).isSome=(valD kvs k).isSome:=by
    rcases hv with⟨n1,n2⟩ | ⟨d,v',n1,n2⟩
    ·rw[n1,n2];rfl
    ·rw[n1,n2];rfl
   have hu1:X.A.units+1<cLine:=by omega
   cases neg with
   | true=>exact Zn7 hu1 I (DGet.k (k:=k) q1) rx fun s' I'=>⟨.bl (!(valV vs k).isSome),w.H,I',rfl,by rw[hb];exact a _ g3⟩
   | false=>exact d_in hu1 I (DGet.k (k:=k) q1) rx fun s' I'=>⟨.bl (valV vs k).isSome,w.H,I',rfl,by rw[hb];exact a _ g3⟩
 ·obtain⟨p,vs,e,q1,q2⟩:=Xe.mp hy
  exact seq e (.inr (.of q1)) q2 g.1 g.2.1 g.2.2
 ·obtain⟨p,vs,e,q1,q2⟩:=Og.mp hy
  rw[e0,←hK] at q1
  exact seq e (.inr q1) q2 g.1 g.2.1 g.2.2
 ·exact g.elim
theorem Ec(hK:X.K=w0.K)(hu:X.A.units+64<cLine)(op:Cm):OpR X (compareOp (cmOf op)) (rB w0 fun M=>cmD M op):=by
 intro pins s σ H x y v u Q I rx ry h
 obtain⟨w,M,dx,dy,QD,rfl,e0,R,hx,hy,g,a⟩:=h
 cases op with
 | lt=>
  obtain⟨i,j,rfl,rfl,g2⟩:=Xb g;clear g;have g:=g2
  cases Ze.mp hx;cases Ze.mp hy
  exact Y77 pins s σ w.H _ _ v u Q I rx ry ⟨_,_,rfl,rfl,a _ g⟩
 | le=>
  obtain⟨i,j,rfl,rfl,g2⟩:=Xb g;clear g;have g:=g2
  cases Ze.mp hx;cases Ze.mp hy
  exact Y55 pins s σ w.H _ _ v u Q I rx ry ⟨_,_,rfl,rfl,a _ g⟩
 | gt=>
  obtain⟨i,j,rfl,rfl,g2⟩:=Xb g;clear g;have g:=g2
  cases Ze.mp hx;cases Ze.mp hy
  exact Y52 pins s σ w.H _ _ v u Q I rx ry ⟨_,_,rfl,rfl,a _ g⟩
 | eq=>
  exact Fk hK hu false pins s σ w.H x y v u Q I rx ry ⟨w,M,_,_,QD,rfl,e0,R,hx,hy,g,a⟩
 | ne=>
  exact Fk hK hu true pins s σ w.H x y v u Q I rx ry ⟨w,M,_,_,QD,rfl,e0,R,hx,hy,g,a⟩
 | is=>
  cases dy with
  | non=>
   cases dx with
   | non=>
    cases Zt.mp hx;cases Zt.mp hy
    exact Q4 pins s σ w.H _ _ v u Q I rx ry ⟨rfl,a _ g⟩
   | bl b=>
    cases Xs.mp hx;cases Zt.mp hy
    exact Q4 pins s σ w.H _ _ v u Q I rx ry ⟨rfl,a _ g⟩
   | int i=>
    cases Ze.mp hx;cases Zt.mp hy
    exact Q4 pins s σ w.H _ _ v u Q I rx ry ⟨rfl,a _ g⟩
   | str z=>
    cases Y4.mp hx;cases Zt.mp hy
    exact Q4 pins s σ w.H _ _ v u Q I rx ry ⟨rfl,a _ g⟩
   | tup l=>
    obtain⟨_,_,rfl,_⟩:=Xe.mp hx;cases Zt.mp hy
    exact Q4 pins s σ w.H _ _ v u Q I rx ry ⟨rfl,a _ g⟩
   | ref n=>
    obtain⟨_,rfl⟩:=Zh.mp hx;cases Zt.mp hy
    exact Q4 pins s σ w.H _ _ v u Q I rx ry ⟨rfl,a _ g⟩
   | exn e C d q=>
    obtain⟨rfl,_⟩:=Nr.mp hx;cases Zt.mp hy
    exact Q4 pins s σ w.H _ _ v u Q I rx ry ⟨rfl,a _ g⟩
   | _=>exact False.elim g
  | _=>exact False.elim g
 | isnot=>
  cases dy with
  | non=>
   cases dx with
   | non=>
    cases Zt.mp hx;cases Zt.mp hy
    exact T5 pins s σ w.H _ _ v u Q I rx ry ⟨rfl,a _ g⟩
   | bl b=>
    cases Xs.mp hx;cases Zt.mp hy
    exact T5 pins s σ w.H _ _ v u Q I rx ry ⟨rfl,a _ g⟩
   | int i=>
    cases Ze.mp hx;cases Zt.mp hy
    exact T5 pins s σ w.H _ _ v u Q I rx ry ⟨rfl,a _ g⟩
   | str z=>
    cases Y4.mp hx;cases Zt.mp hy
    exact T5 pins s σ w.H _ _ v u Q I rx ry ⟨rfl,a _ g⟩
   | tup l=>
    obtain⟨_,_,rfl,_⟩:=Xe.mp hx;cases Zt.mp hy
    exact T5 pins s σ w.H _ _ v u Q I rx ry ⟨rfl,a _ g⟩
   | ref n=>
    obtain⟨_,rfl⟩:=Zh.mp hx;cases Zt.mp hy
    exact T5 pins s σ w.H _ _ v u Q I rx ry ⟨rfl,a _ g⟩
   | exn e C d q=>
    obtain⟨rfl,_⟩:=Nr.mp hx;cases Zt.mp hy
    exact T5 pins s σ w.H _ _ v u Q I rx ry ⟨rfl,a _ g⟩
   | _=>exact False.elim g
  | _=>exact False.elim g
 | isin=>
  exact Fq hK hu false pins s σ w.H x y v u Q I rx ry ⟨w,M,_,_,QD,rfl,e0,R,hx,hy,g,a⟩
 | notin=>
  exact Fq hK hu true pins s σ w.H x y v u Q I rx ry ⟨w,M,_,_,QD,rfl,e0,R,hx,hy,g,a⟩
end
theorem RKV.isEmpty{w:Vw}{ds:List (Key×D)}{vs:List (Key×V)}(h:RKV w ds vs):vs.isEmpty=ds.isEmpty:=by
 cases ds with
 | nil=>unfold RKV at h;subst h;rfl
 | cons p ds=>obtain⟨k,d⟩:=p;unfold RKV at h;obtain⟨v,r,rfl,_⟩:=h;rfl
theorem RDs.isEmpty{w:Vw}{ds:List D}{vs:List V}(h:RDs w ds vs):vs.isEmpty=ds.isEmpty:=by
 cases ds with
 | nil=>unfold RDs at h;subst h;rfl
 | cons d ds=>unfold RDs at h;obtain⟨v,r,rfl,_⟩:=h;rfl
theorem Tl{K:PySem.W.Frag}{w:Vw}{M:Z2}{d:D}{x:V}{QD:Bool→Prop}(hK:w.K=K)(R:RS w M)(r:RD w d x)(g:truD M d QD):∃k,TruV K x w.H k∧QD k:=by
 unfold truD at g
 split at g
 ·cases Zt.mp r;exact⟨_,rfl,g⟩
 ·cases Xs.mp r;exact⟨_,rfl,g⟩
 ·cases Ze.mp r;exact⟨_,rfl,g⟩
 ·cases Y4.mp r;exact⟨_,⟨g.1,rfl⟩,g.2⟩
 ·obtain⟨a,vs,rfl,q1,q2⟩:=Xe.mp r
  exact⟨_,.inr (.inl ⟨vs,.of q1,rfl⟩),by rw[q2.isEmpty];exact g⟩
 ·obtain⟨_,rfl⟩:=Zh.mp r
  rcases g with⟨xs,g1,g2⟩ | ⟨xs,g1,g2⟩
  ·obtain⟨_,vs,q1,q2,_⟩:=R.listL g1
   rw[hK] at q1
   exact⟨_,.inl ⟨vs,q1,rfl⟩,by rw[q2.isEmpty];exact g2⟩
  ·obtain⟨_,vs,q1,q2⟩:=R.dict g1
   exact⟨_,.inr (.inr ⟨vs,q1,rfl⟩),by rw[q2.isEmpty];exact g2⟩
 ·exact g.elim
theorem Ge{w:Vw}{xs:List D}{vs:List V}{i:Int}{d:D}(r:RDs w xs vs)(h:atI xs i=some d):∃v,atI vs i=some v∧RD w d v:=by
 unfold atI at *
 rw[r.length]
 obtain⟨j,h1,h2⟩:=Option.bind_eq_some_iff.mp h
 obtain⟨v,q1,q2⟩:=r.get h2
 exact⟨v,by rw[h1];exact q1,q2⟩
theorem Z27{w:Vw}{xs:List D}{vs:List V}{lo hi:Option Int}(r:RDs w xs vs):RDs w (cutD xs lo hi) (cutV vs lo hi):=by
 unfold cutD cutV
 rw[r.length]
 exact(r.drop _).take _
section
variable{X:Cx}{w0:Vw}
theorem Zm5(hu:X.A.units+1<cLine):IxR X (fun x y H Q=>∃a v,x= .ref a∧DGet H a y (some v)∧Q v H):=by
 intro value slice pins s σ H x y v u Q I rx ry h hs
 obtain⟨a,vv,rfl,g,q⟩:=h
 cases rx
 have hT:=Q0 I g
 have h₂:wpAny (model X.prog X.w) X.A (getItem (.ref a) u) (EP X pins σ Q) X.xe s:=Z66 hu I g ry fun w' s3 I3 rw'=>⟨vv,H,I3,rw',q⟩
 unfold subscriptTail
 refine wpAny_bind ?_
 rw[getitemInPython_of_ne hT.not_modules]
 refine wpAny_bind (wpAny_specialOf hT PySem.F.slot_dict_getitem.lookup ?_)
 have fin:wpAny (model X.prog X.w) X.A (subscripted slice false (.ref a) u) (fun r s₃=>wpAny (model X.prog X.w) X.A (letTemporaryGo value (.ref a) r >>=fun _=>pure r) (EP X pins σ Q) X.xe s₃) X.xe s:=by
  rw[hs]
  exact wpAny_operating (wpAny_mono h₂ (fun r s₃ h₃=>wpAny_bind (wpAny_letTemporaryGo (wpAny_pure h₃))) fun _ _ x=>x)
 first
  | exact wpAny_pure (wpAny_bind fin)
  | exact wpAny_bind (wpAny_pure (wpAny_bind fin))
  | exact wpAny_bind fin
def rX(w0:Vw):R2:=fun x y H Q=>∃w M dx dy QD,w.H=H∧w.K=w0.K∧RS w M∧RD w dx x∧RD w dy y∧ixD M dx dy QD∧∀d v,QD d→RD w d v→Q v H
theorem Zf2(hK:X.K=w0.K)(hu:X.A.units+64<cLine):IxR X (rX w0):=by
 intro value slice pins s σ H x y v u Q I rx ry h hs
 obtain⟨w,M,dx,dy,QD,rfl,e0,R,hx,hy,g,a⟩:=h
 unfold ixD at g
 split at g
 ·obtain⟨_,rfl⟩:=Zh.mp hx
  rcases g with⟨xs,i,d,rfl,g1,g2,g3⟩ | ⟨kvs,k,d,g1,g2,g3,g4⟩
  ·cases Ze.mp hy
   obtain⟨_,vs,q1,q2,_⟩:=R.listL g1
   rw[e0,←hK] at q1
   obtain⟨vv,z1,z2⟩:=Ge q2 g2
   exact Zu1 value slice pins s σ w.H _ _ v u Q I rx ry ⟨_,vs,i,vv,rfl,rfl,q1,z1,a _ _ g3 z2⟩ hs
  ·obtain⟨vs,q1,q2⟩:=R.dictF g1
   cases Vu g2 hy
   rcases q2.val k with⟨n1,n2⟩ | ⟨d',v',n1,n2,n3⟩
   ·rw[n1] at g3;cases g3
   ·rw[n1] at g3;cases g3
    refine Zm5 (by omega) value slice pins s σ w.H _ _ v u Q I rx ry ⟨_,v',rfl,?_,a _ _ g4 n3⟩ hs
    have:DGet w.H (w.μ _) (kV k) (valV vs k):= .inl ⟨vs,k,q1,rfl,rfl⟩
    rw[n2] at this
    exact this
 ·cases Ze.mp hy
  obtain⟨p,vs,rfl,q1,q2⟩:=Xe.mp hx
  obtain⟨d,g1,g2⟩:=g
  obtain⟨vv,z1,z2⟩:=Ge q2 g1
  exact Zi8 value slice pins s σ w.H _ _ v u Q I rx ry ⟨_,vs,_,vv,rfl,rfl,.of q1,z1,a _ _ g2 z2⟩ hs
 ·cases Ze.mp hy
  obtain⟨p,vs,rfl,q1,q2⟩:=Og.mp hx
  rw[e0,←hK] at q1
  obtain⟨d,g1,g2⟩:=g
  obtain⟨vv,z1,z2⟩:=Ge q2 g1
  exact Zi8 value slice pins s σ w.H _ _ v u Q I rx ry ⟨_,vs,_,vv,rfl,rfl,q1,z1,a _ _ g2 z2⟩ hs
 ·cases Ze.mp hy;cases Y4.mp hx
  obtain⟨g0,c,g1,g2⟩:=g
  exact Zx9 value slice pins s σ w.H _ _ v u Q I rx ry ⟨_,_,c,rfl,rfl,g0,g1,a _ _ g2 (Y4.mpr rfl)⟩ hs
 ·exact g.elim
theorem Y32:SlR X (fun x lo hi H Q=>∃z,x= .str z∧z.length≤sizeLine∧Q (.str (Txt.slice z lo hi)) H):=by
 intro pins s σ H x v vl vu lo hi sl Q I rx hs pl pu h
 obtain⟨z,rfl,hz,q⟩:=h
 obtain⟨t,rfl⟩:=rx
 have key:∀l u:Option (Int×Tok),l.map (·.1)=lo→u.map (·.1)=hi→vl=partValue l→vu=partValue u→wpAny (model X.prog X.w) X.A (getItem (.str z t) (.ref sl)) (EP X pins σ Q) X.xe s:=by
  intro l u e1 e2 e3 e4
  subst e1 e2 e3 e4
  refine wpAny_getItem_str_slice (l:=l) (u:=u) (st:=none) hs rfl ?_
  exact post_val_or_str ⟨Nat.le_trans (Txt.slice_le z _ _) hz,fun t' k=>⟨.str (Txt.slice z _ _),H,I.tok _,⟨_,rfl⟩,q⟩⟩
 refine⟨"str",_,PySem.F.slot_str_getitem.lookup,typeIs_str _ _ _,?_⟩
 cases pl with
 | none=>
  cases pu with
  | none=>exact key none none rfl rfl rfl rfl
  | int j tj=>exact key none (some (j,tj)) rfl rfl rfl rfl
 | int i ti=>
  cases pu with
  | none=>exact key (some (i,ti)) none rfl rfl rfl rfl
  | int j tj=>exact key (some (i,ti)) (some (j,tj)) rfl rfl rfl rfl
def rSl(w0:Vw):V→Option Int→Option Int→Hp→VK→Prop:=fun x lo hi H Q=>∃w M dx QD,w.H=H∧w.K=w0.K∧RS w M∧RD w dx x∧slD dx lo hi M QD∧Aft w QD Q
theorem Zg9(hK:X.K=w0.K):SlR X (rSl w0):=by
 intro pins s σ H x v vl vu lo hi sl Q I rx hs pl pu h
 obtain⟨w,M,dx,QD,rfl,e0,R,hx,g,a⟩:=h
 unfold slD at g
 split at g
 ·cases Y4.mp hx
  exact Y32 pins s σ w.H _ v vl vu _ _ sl Q I rx hs pl pu ⟨_,rfl,g.1,a _ w _ M (Ext.refl w) R (Y4.mpr rfl) g.2⟩
 ·obtain⟨_,rfl⟩:=Zh.mp hx
  obtain⟨xs,g1,g2⟩:=g
  obtain⟨_,vs,q1,q2,_⟩:=R.listL g1
  rw[e0,←hK] at q1
  refine Zq8 pins s σ w.H _ v vl vu _ _ sl Q I rx hs pl pu ⟨_,vs,rfl,q1,fun p hp=>?_⟩
  obtain⟨x1,x2,x3⟩:=Xi R hp (Z27 (lo:=lo) (hi:=hi) q2)
  exact a _ _ _ _ x1 x2 x3 g2
 ·obtain⟨p,vs,rfl,q1,q2⟩:=Xe.mp hx
  refine Y40 pins s σ w.H _ v vl vu _ _ sl Q I rx hs pl pu ⟨_,vs,rfl,.of q1,by rw[q2.length];exact g.1,fun p hp=>?_⟩
  obtain⟨x1,x2,x3⟩:=Rm R hp (Z27 (lo:=lo) (hi:=hi) q2)
  exact a _ _ _ _ x1 x2 x3 g.2
 ·exact g.elim
def rC(w0:Vw)(g:List D→Z2→DK→Prop):List V→Hp→VK→Prop:=fun xs H Q=>∃w M ds QD,w.H=H∧w.K=w0.K∧RS w M∧RDs w ds xs∧g ds M QD∧Aft w QD Q
noncomputable def bfOf:Bf→Str×Value
 | .len=>("len",.builtin "len") | .isinst=>("isinstance",.builtin "isinstance") | .min2=>("min",.builtin "min") | .max2=>("max",.builtin "max") | .min1=>("min",.builtin "min")
 | .list1=>("list",.type "list") | .sorted1=>("sorted",.builtin "sorted") | .sortedL=>("sorted",.builtin "sorted")
theorem rds1{w:Vw}{d:D}{xs:List V}(h:RDs w [d] xs):∃v,xs=[v]∧RD w d v:=by
 unfold RDs at h
 obtain⟨v,r,rfl,h1,h2⟩:=h
 unfold RDs at h2
 subst h2
 exact⟨v,rfl,h1⟩
theorem rds2{w:Vw}{d e:D}{xs:List V}(h:RDs w [d,e] xs):∃v u,xs=[v,u]∧RD w d v∧RD w e u:=by
 unfold RDs at h
 obtain⟨v,r,rfl,h1,h2⟩:=h
 obtain⟨u,rfl,h3⟩:=rds1 h2
 exact⟨v,u,rfl,h1,h3⟩
theorem rds0{w:Vw}{xs:List V}(h:RDs w [] xs):xs=[]:=by unfold RDs at h;exact h
theorem Z06{w:Vw}:∀{as:List Addr} {vs:List V},RDs w (as.map D.cls) vs→vs=as.map V.ref
 | [],vs,h=>rds0 h
 | a::r,vs,h=>by
  rw[List.map_cons] at h
  unfold RDs at h
  obtain⟨v,vs',rfl,h1,h2⟩:=h
  rw[Zk3.mp h1,Z06 h2]
  rfl
def Y70(K:PySem.W.Frag):List V→Hp→VK→Prop:=fun xs H Q=>∃(e C dx:Addr) (fs:List (Str×V)) (p:Addr) (as:List Addr) (b:Bool),xs=[.ref e,.ref p]∧H e=some (XO e (.ref C) (some dx))∧H dx=some (.xd fs)∧ExcIs K C∧H p=some (.tup (as.map V.ref))∧PySem.W.kitAny K (.ref C) (as.map Value.ref)=some b∧Q (.bl b) H
theorem Oz:∀{as:List Addr} {us:List Value},Vals (as.map V.ref) us→us=as.map Value.ref
 | [],us,h=>by cases h;rfl
 | a::r,us,h=>by
  cases h with
  | cons h1 h2=>
   obtain rfl:_=Value.ref a:=h1
   rw[Oz h2]
   rfl
theorem B6{X:Cx}:Ww X (.builtin "isinstance") (Y70 X.K):=by
 intro pins s σ H xs us Q I r h
 obtain⟨e,C,dx,fs,p,as,b,rfl,he,hd,S,hp,k,q⟩:=h
 obtain⟨u,v,rfl,ru,rv⟩:=Gd r
 obtain rfl:u=Value.ref e:=ru
 obtain rfl:v=Value.ref p:=rv
 obtain⟨oe,od,mA,J,_⟩:=Gz I he hd
 obtain⟨its,r',⟨⟨oc,odd,dat,sl⟩,g1,g2,n,g3⟩,hz⟩:=I.tuple (.of hp)
 cases Oz r'
 dsimp only at g2 g3
 subst g2 g3
 exact PySem.W.kia_tup (Fs S) I.kIn J g1 k (fun z=>nomatch z) fun tk=>⟨.bl b,H,I.tok tk,rfl,q⟩
theorem Q3{w:Vw}:∀{ns:List Int} {vs:List V},RDs w (ns.map .int) vs→vs=ns.map V.int
 | [],vs,h=>rds0 h
 | n::ns,vs,h=>by
  rw[List.map_cons] at h
  unfold RDs at h
  obtain⟨v,r,rfl,h1,h2⟩:=h
  cases Ze.mp h1
  rw[Q3 h2];rfl
theorem Y28{K:PySem.W.Frag}{w:Vw}{M:Z2}{d:D}{x:V}{t:String}(R:RS w M)(r:RD w d x)(h:tyD M d=some t):TyOf K w.H x (.type t):=by
 unfold tyD at h
 split at h
 ·cases h;cases Zt.mp r;exact .non
 ·cases h;cases Xs.mp r;exact .bl _
 ·cases h;cases Ze.mp r;exact .int _
 ·cases h;cases Y4.mp r;exact .str _
 ·cases h;obtain⟨a,vs,rfl,q,_⟩:=Xe.mp r;exact .tup q
 ·obtain⟨_,rfl⟩:=Zh.mp r
  split at h
  ·rename_i e;cases h;obtain⟨vs,q,_⟩:=R.cell _ _ e;exact .lst q
  ·cases h
  ·rename_i e;cases h;obtain⟨vs,q,_⟩:=R.cell _ _ e;exact .dK q
  ·cases h
  ·cases h
 ·cases h
noncomputable def Vx:Bf→Bool
 | .min2 | .max2 | .min1 | .sorted1=>false
 | _=>true
theorem E6{w:Vw}:∀{ds:List (Key×D)} {vs:List (Key×V)},RKV w ds vs→vs.map (·.1)=ds.map (·.1)
 | [],vs,h=>by unfold RKV at h;subst h;rfl
 |(k,d)::ds,vs,h=>by
  unfold RKV at h
  obtain⟨v,r,rfl,_,h2⟩:=h
  rw[List.map_cons,List.map_cons,E6 h2]
theorem Sx{w:Vw}:∀ns:List Int,RDs w (ns.map .int) (ns.map V.int)
 | []=>RDs.nil w
 | n::ns=>RDs.cons (Ze.mpr rfl) (Sx ns)
theorem E5{w:Vw}:∀{ks:List Key} {vs:List V},RDs w (ks.map kD) vs→vs=ks.map kV
 | [],vs,h=>rds0 h
 | k::ks,vs,h=>by
  rw[List.map_cons] at h
  unfold RDs at h
  obtain⟨v,r,rfl,h1,h2⟩:=h
  rw[E5 h2]
  cases k with
  | inl i=>cases Ze.mp h1;rfl
  | inr x=>cases Y4.mp h1;rfl
theorem J8{w:Vw}:∀{ps:List (Int×Int)} {vs:List V},RDs w (ps.map pD) vs→∃bs:List Addr,vs=bs.map V.ref∧bs.length=ps.length∧∀(i:Nat) b p,bs[i]?=some b→ps[i]?=some p→w.H b=some (.tup [.int p.1,.int p.2])
 | [],vs,h=>⟨[],rds0 h,rfl,fun i b p e=>by simp at e⟩
 | p::ps,vs,h=>by
  rw[List.map_cons] at h
  unfold RDs at h
  obtain⟨v,r,rfl,h1,h2⟩:=h
  obtain⟨bs,rfl,hl,hb⟩:=J8 h2
  obtain⟨a,us,rfl,y1,y2⟩:=Xe.mp h1
  unfold RDs at y2
  obtain⟨u1,r1,rfl,z1,y2⟩:=y2
  unfold RDs at y2
  obtain⟨u2,r2,rfl,z2,y2⟩:=y2
  unfold RDs at y2
  subst y2
  cases Ze.mp z1
  cases Ze.mp z2
  refine⟨a::bs,rfl,by rw[List.length_cons,List.length_cons,hl],fun i b q e1 e2=>?_⟩
  cases i with
  | zero=>cases e1;cases e2;exact y1
  | succ i=>exact hb i b q e1 e2
theorem Zd4(hK:X.K=w0.K)(hu:X.A.units+64<cLine)(b:Bf)(hc:X.calm=true∨Vx b=true):Ww X (bfOf b).2 (rC w0 (bfD w0.K b)):=by
 intro pins s σ H xs us Q I r h
 obtain⟨w,M,ds,QD,rfl,e0,R,hx,g,a⟩:=h
 cases b with
 | len=>
  obtain⟨x,rfl,g2⟩:=Wj g;clear g;have g:=g2
  cases x with
  | ref n=>
   obtain⟨v,rfl,r1⟩:=rds1 hx
   obtain⟨_,rfl⟩:=Zh.mp r1
   rcases g with⟨xs,g1,g2⟩ | ⟨xs,g1,g2⟩
   ·obtain⟨_,vs,q1,q2,_⟩:=R.listL g1
    rw[e0,←hK] at q1
    exact Sh pins s σ w.H _ us Q I r ⟨_,vs,rfl,.inl q1,a _ w _ M (Ext.refl w) R (Ze.mpr (by rw[q2.length])) g2⟩
   ·obtain⟨_,vs,q1,q2⟩:=R.dict g1
    exact Z68 pins s σ w.H _ us Q I r ⟨_,vs,rfl,q1,a _ w _ M (Ext.refl w) R (Ze.mpr (by rw[q2.length])) g2⟩
  | tup l=>
   obtain⟨v,rfl,r1⟩:=rds1 hx
   obtain⟨p,vs,rfl,q1,q2⟩:=Xe.mp r1
   exact Sh pins s σ w.H _ us Q I r ⟨_,vs,rfl,.inr (.of q1),a _ w _ M (Ext.refl w) R (Ze.mpr (by rw[q2.length])) g⟩
  | str z=>
   obtain⟨v,rfl,r1⟩:=rds1 hx
   cases Y4.mp r1
   exact Jz pins s σ w.H _ us Q I r ⟨_,rfl,g.1,a _ w _ M (Ext.refl w) R (Ze.mpr rfl) g.2⟩
  | _=>exact False.elim g
 | isinst=>
  obtain⟨x,y,rfl,g2⟩:=Qc g;clear g;have g:=g2
  obtain⟨v,u,rfl,r1,r2⟩:=rds2 hx
  unfold isD at g
  split at g
  ·obtain⟨b,g1,g2,g3⟩:=g
   obtain⟨rfl,q1,row,q2,q3⟩:=Nr.mp r1
   cases Zk3.mp r2
   rw[←hK] at g1 g2
   exact Fi pins s σ w.H _ us Q I r ⟨_,_,_,_,_,_,b,rfl,q1,q2,g1,fun u hu=>hu,g2,a _ w _ M (Ext.refl w) R (Xs.mpr rfl) g3⟩
  ·obtain⟨b,g1,g2,g3⟩:=g
   obtain⟨rfl,q1,row,q2,q3⟩:=Nr.mp r1
   cases Zn9.mp r2
   rw[←hK] at g1 g2
   exact Fi pins s σ w.H _ us Q I r ⟨_,_,_,_,_,_,b,rfl,q1,q2,g1,fun u hu=>hu,g2,a _ w _ M (Ext.refl w) R (Xs.mpr rfl) g3⟩
  ·obtain⟨as,b,rfl,g1,g2,g3⟩:=g
   obtain⟨rfl,q1,row,q2,q3⟩:=Nr.mp r1
   obtain⟨p,vs,rfl,q4,q5⟩:=Xe.mp r2
   cases Z06 q5
   rw[←hK] at g1 g2
   exact B6 pins s σ w.H _ us Q I r ⟨_,_,_,_,_,_,b,rfl,q1,q2,g1,q4,g2,a _ w _ M (Ext.refl w) R (Xs.mpr rfl) g3⟩
  ·obtain⟨t,b,g1,g2,g3⟩:=g
   cases Zn9.mp r2
   rw[←hK] at g2
   exact Zg2 pins s σ w.H _ us Q I r ⟨_,_,_,b,rfl,Y28 R r1 g1,g2,a _ w _ M (Ext.refl w) R (Xs.mpr rfl) g3⟩
  ·exact g.elim
 | min2=>
  obtain⟨x,y,rfl,g2⟩:=Qc g;clear g;have g:=g2
  obtain⟨i,j,rfl,rfl,g2⟩:=Xb g;clear g;have g:=g2
  obtain⟨v,u,rfl,r1,r2⟩:=rds2 hx
  cases Ze.mp r1;cases Ze.mp r2
  exact Z13 (hc.resolve_right (by simp[Vx])) pins s σ w.H _ us Q I r ⟨_,_,rfl,a _ w _ M (Ext.refl w) R (Ze.mpr rfl) g⟩
 | max2=>
  obtain⟨x,y,rfl,g2⟩:=Qc g;clear g;have g:=g2
  obtain⟨i,j,rfl,rfl,g2⟩:=Xb g;clear g;have g:=g2
  obtain⟨v,u,rfl,r1,r2⟩:=rds2 hx
  cases Ze.mp r1;cases Ze.mp r2
  exact Bi (hc.resolve_right (by simp[Vx])) pins s σ w.H _ us Q I r ⟨_,_,rfl,a _ w _ M (Ext.refl w) R (Ze.mpr rfl) g⟩
 | min1=>
  obtain⟨x,rfl,g2⟩:=Wj g;clear g;have g:=g2
  obtain⟨n,rfl,g2⟩:=Ys g;clear g;have g:=g2
  obtain⟨v,rfl,r1⟩:=rds1 hx
  obtain⟨_,rfl⟩:=Zh.mp r1
  obtain⟨ps,g1,g2,g3⟩:=g
  obtain⟨_,vs,q1,q2,_⟩:=R.listL g1
  obtain⟨bs,rfl,hl,hb⟩:=J8 q2
  rw[e0,←hK] at q1
  refine Z04 (hc.resolve_right (by simp[Vx])) hu pins s σ w.H _ us Q I r ⟨_,bs,ps,rfl,hl,g2,q1,fun i b p h1 h2=> .of (hb i b p h1 h2),fun i b p h1 h2 h3=>?_⟩
  exact a _ w _ M (Ext.refl w) R (Xe.mpr ⟨b,_,rfl,hb i b p h1 h2,RDs.cons (Ze.mpr rfl) (RDs.cons (Ze.mpr rfl) (RDs.nil w))⟩) (g3 p (List.mem_of_getElem? h2) h3)
 | list1=>
  obtain⟨x,rfl,g2⟩:=Wj g;clear g;have g:=g2
  obtain⟨v,rfl,r1⟩:=rds1 hx
  obtain⟨xs,g1,g2⟩:=g
  have:∃p vs,v= .ref p∧(SqL X.K w.H p vs∨SqT X.K w.H p vs)∧RDs w xs vs:=by
   rw[hK,←e0]
   unfold Z65 at g1
   split at g1
   ·obtain⟨_,rfl⟩:=Zh.mp r1
    obtain⟨_,vs,q1,q2,_⟩:=R.listL g1
    exact⟨_,vs,rfl,.inl q1,q2⟩
   ·cases g1
    obtain⟨p,vs,rfl,q1,q2⟩:=Xe.mp r1
    exact⟨_,vs,rfl,.inr (.of q1),q2⟩
   ·cases g1
    obtain⟨p,vs,rfl,q1,q2⟩:=Og.mp r1
    exact⟨_,vs,rfl,.inr q1,q2⟩
   ·cases g1
  obtain⟨p,vs,rfl,q1,q2⟩:=this
  refine G1 pins s σ w.H _ us Q I r ⟨p,vs,rfl,q1,fun l hl=>?_⟩
  obtain⟨x1,x2,x3⟩:=Xi R hl q2
  exact a _ _ _ _ x1 x2 x3 g2
 | sortedL=>
  obtain⟨x,rfl,g2⟩:=Wj g;clear g;have g:=g2
  obtain⟨n,rfl,g2⟩:=Ys g;clear g;have g:=g2
  obtain⟨v,rfl,r1⟩:=rds1 hx
  obtain⟨_,rfl⟩:=Zh.mp r1
  obtain⟨ns,g1,g2,g3⟩:=g
  obtain⟨_,vs,q1,q2,_⟩:=R.listL g1
  cases Q3 q2
  rw[e0,←hK] at q1
  refine N5 pins s σ w.H _ us Q I r ⟨_,ns,rfl,q1,g2,fun l ms hl h1 h2=>?_⟩
  obtain⟨x1,x2,x3⟩:=Xi R hl (Sx ms)
  exact a _ _ _ _ x1 x2 x3 (g3 ms h1 h2)
 | sorted1=>
  obtain⟨x,rfl,g2⟩:=Wj g;clear g;have g:=g2
  obtain⟨n,rfl,g2⟩:=Ys g;clear g;have g:=g2
  obtain⟨v,rfl,r1⟩:=rds1 hx
  obtain⟨_,rfl⟩:=Zh.mp r1
  obtain⟨kvs,ns,g1,g2,g3,g4⟩:=g
  obtain⟨_,vs,q1,q2⟩:=R.dict g1
  refine Nu (hc.resolve_right (by simp[Vx])) pins s σ w.H _ us Q I r ⟨_,vs,ns,rfl,q1,(E6 q2).trans g2,g3,fun l ms hl h1 h2=>?_⟩
  obtain⟨x1,x2,x3⟩:=Xi R hl (Sx ms)
  exact a _ _ _ _ x1 x2 x3 (g4 ms h1 h2)
end
noncomputable def mtT:Mt→String
 | .clearD=>"dict"
 | .append | .pop0 | .index1 | .extend=>"list"
 | .get2=>"dict"
noncomputable def mtN:Mt→Str
 | .clearD=>"clear"
 | .append=>"append" | .pop0=>"pop" | .index1=>"index" | .extend=>"extend" | .get2=>"get"
noncomputable def mtI:Mt→String
 | .clearD=>"dict.clear"
 | .append=>"list.append" | .pop0=>"list.pop" | .index1=>"list.index" | .extend=>"list.extend" | .get2=>"dict.get"
theorem Y13:∀m:Mt,PlainAttrs (mtT m)
 | .clearD=>PySem.F.plainAttrs_dict
 | .append | .pop0 | .index1 | .extend=>PySem.F.plainAttrs_list
 | .get2=>PySem.F.plainAttrs_dict
theorem Br:∀m:Mt,Slot (mtT m) (mtN m) (mtI m)
 | .clearD=>PySem.F.slot_dict_clear
 | .append=>PySem.F.slot_list_append | .pop0=>PySem.F.slot_list_pop | .index1=>PySem.F.slot_list_index | .extend=>PySem.F.slot_list_extend
 | .get2=>PySem.F.slot_dict_get
theorem Y12:∀m:Mt,typeOf (.builtin (mtI m))=pure (.type "method_descriptor")
 | .clearD=>PySem.F.type_dict_clear
 | .append=>PySem.F.type_list_append | .pop0=>PySem.F.type_list_pop | .index1=>PySem.F.type_list_index | .extend=>PySem.F.type_list_extend
 | .get2=>PySem.F.type_dict_get
def rM(w0:Vw)(m:Mt):V→List V→Hp→VK→Prop:=fun x xs H Q=>∃w M dx ds QD,w.H=H∧w.K=w0.K∧RS w M∧RD w dx x∧RDs w ds xs∧mtD m dx ds M QD∧Aft w QD Q
theorem Zk2{w:Vw}{M:Z2}{m:Mt}{d:D}{x:V}(R:RS w M)(r:RD w d x)(h:mtK m d M):tyV w.K (mtT m) x w.H:=by
 have L:∀{n:Nat},RD w (.ref n) x→(Z7 M n).isSome=true→tyV w.K "list" x w.H:=by
  intro n r h
  obtain⟨_,rfl⟩:=Zh.mp r
  obtain⟨xs,e⟩:=Option.isSome_iff_exists.mp h
  obtain⟨_,vs,q1,_⟩:=R.listL e
  exact .inl ⟨rfl,vs,q1⟩
 have K:∀{n:Nat},RD w (.ref n) x→(Zm M n).isSome=true→tyV w.K "dict" x w.H:=by
  intro n r h
  obtain⟨_,rfl⟩:=Zh.mp r
  obtain⟨xs,e⟩:=Option.isSome_iff_exists.mp h
  obtain⟨_,vs,q1,_⟩:=R.dict e
  exact .inr (.inr (.inl ⟨rfl,.inl ⟨vs,q1⟩⟩))
 obtain⟨n,rfl,h⟩:=Ys h
 cases m with
 | clearD=>exact K r h
 | get2=>exact K r h
 | _=>exact L r h
theorem RDs.dropLast{w:Vw}{xs:List D}{vs:List V}(r:RDs w xs vs):RDs w xs.dropLast vs.dropLast:=by
 rw[List.dropLast_eq_take,List.dropLast_eq_take,r.length]
 exact r.take _
section
variable{X:Cx}{w0:Vw}
theorem Zf3(hK:X.K=w0.K)(hu:X.A.units+64<cLine)(m:Mt):MtR X (mtI m) (rM w0 m):=by
 intro pins s σ H x xs v us Q I rx r h
 obtain⟨w,M,dx,ds,QD,rfl,e0,R,hx,hs,g,a⟩:=h
 obtain⟨n,rfl,g2⟩:=Ys g;clear g;have g:=g2
 cases m with
 | append=>
  obtain⟨x,rfl,g2⟩:=Wj g;clear g;have g:=g2
  obtain⟨_,rfl⟩:=Zh.mp hx
  obtain⟨y,rfl,ry⟩:=rds1 hs
  obtain⟨ds,g1,g2,g3⟩:=g
  obtain⟨hn,vs,q1,q2⟩:=R.list g1
  obtain⟨x1,x2⟩:=We R hn q1 (q2.append (RDs.cons ry (RDs.nil w)))
  exact Rv pins s σ w.H _ _ v us Q I rx r ⟨_,vs,y,rfl,rfl,q1,by rw[q2.length];exact g2,a _ _ _ _ x1 x2 (Zt.mpr rfl) g3⟩
 | index1=>
  obtain⟨x,rfl,g2⟩:=Wj g;clear g;have g:=g2
  obtain⟨_,rfl⟩:=Zh.mp hx
  obtain⟨y,rfl,ry⟩:=rds1 hs
  obtain⟨ds,k,z,g1,fd,fs,g2,g4,g5,g3⟩:=g
  obtain⟨hn,vs,q1,q2,_⟩:=R.listL g1
  rw[e0,←hK] at q1
  obtain⟨zv,z1,z2⟩:=q2.get g2
  have fl:=(Bh fd ry fs q2).2
  have fz:∀{u:D} {j:Nat},ds[j]?=some u→Yq u=true:=fun{u j} h=>by
   rw[List.all_eq_true] at fs
   exact fs _ (List.mem_of_getElem? h)
  refine Za1 pins s σ w.H _ _ v us Q I rx r ⟨_,vs,y,k,zv,rfl,rfl,q1,Rh fd ry,fl,z1,?_,?_,a _ w _ M (Ext.refl w) R (Ze.mpr rfl) g3⟩
  ·rw[Gk (fz g2) fd z2 ry];exact g4
  ·intro j u hj hu
   have hjl:j<ds.length:=by rw[←q2.length];exact(List.getElem?_eq_some_iff.mp hu).1
   obtain⟨u',w1,w2⟩:=q2.get (List.getElem?_eq_getElem hjl)
   rw[hu] at w1
   cases w1
   rw[Gk (fz (List.getElem?_eq_getElem hjl)) fd w2 ry]
   exact g5 j _ hj (List.getElem?_eq_getElem hjl)
 | clearD=>
  obtain⟨rfl,g2⟩:=Gu g;clear g;have g:=g2
  obtain⟨_,rfl⟩:=Zh.mp hx
  cases rds0 hs
  obtain⟨kvs,g1,g3⟩:=g
  obtain⟨hn,vs,q1,q2⟩:=R.dict g1
  obtain⟨x1,x2⟩:=Vf (vs:=[]) (xs:=[]) R hn q1 (by unfold RKV;rfl)
  cases (show v=Value.ref _ from rx)
  cases r
  refine Zr5 I q1 fun s' I'=>⟨.non,_,I',rfl,?_⟩
  exact a _ _ _ _ x1 x2 (Zt.mpr rfl) g3
 | get2=>
  obtain⟨x,y,rfl,g2⟩:=Qc g;clear g;have g:=g2
  obtain⟨_,rfl⟩:=Zh.mp hx
  obtain⟨y,z,rfl,ry,rz⟩:=rds2 hs
  obtain⟨kvs,k,g1,g2,g3⟩:=g
  obtain⟨hn,vs,q1,q2⟩:=R.dict g1
  obtain⟨u,u2,rfl,ru,ru2⟩:=Gd r
  cases (show v=Value.ref _ from rx)
  cases Vu g2 ry
  refine Zx7 (by omega) I (DGet.k (k:=k) q1) ru ru2 fun w' s' I' rw'=>⟨_,w.H,I',rw',?_⟩
  rcases q2.val k with⟨n1,n2⟩ | ⟨d',v',n1,n2,n3⟩
  ·rw[n1] at g3
   rw[n2]
   exact a _ w _ M (Ext.refl w) R rz g3
  ·rw[n1] at g3
   rw[n2]
   exact a _ w _ M (Ext.refl w) R n3 g3
 | pop0=>
  obtain⟨rfl,g2⟩:=Gu g;clear g;have g:=g2
  obtain⟨_,rfl⟩:=Zh.mp hx
  cases rds0 hs
  obtain⟨ds,d,g1,g2,g3⟩:=g
  obtain⟨hn,vs,q1,q2⟩:=R.list g1
  obtain⟨y,z1,z2⟩:=q2.get g2
  obtain⟨x1,x2⟩:=We R hn q1 q2.dropLast
  exact Y43 pins s σ w.H _ _ v us Q I rx r ⟨_,vs,y,rfl,rfl,q1,by rw[q2.length];exact z1,a _ _ _ _ x1 x2 (z2.ext x1) g3⟩
 | extend=>
  obtain⟨x,rfl,g2⟩:=Wj g;clear g;have g:=g2
  obtain⟨m2,rfl,g2⟩:=Ys g;clear g;have g:=g2
  obtain⟨_,rfl⟩:=Zh.mp hx
  obtain⟨y,rfl,ry⟩:=rds1 hs
  obtain⟨_,rfl⟩:=Zh.mp ry
  obtain⟨ds,es,g1,g2,g4,g3⟩:=g
  obtain⟨hn,vs,q1,q2⟩:=R.list g1
  obtain⟨hn',vs',q1',q2'⟩:=R.list g2
  obtain⟨x1,x2⟩:=We R hn q1 (q2.append q2')
  exact B7 pins s σ w.H _ _ v us Q I rx r ⟨_,_,vs,vs',rfl,rfl,q1,q1',by rw[q2.length,q2'.length];exact g4,a _ _ _ _ x1 x2 (Zt.mpr rfl) g3⟩
end
noncomputable def gF(w0:Vw)(tg:List Nat):TG:=fun v σ H Q=>∃w σD M d QD,StOk w0 w σD M σ H∧RD w d v∧tgD tg d σD QD∧∀σ' σD',REnv w σD' σ'→QD σD'→Q σ' H
noncomputable def gAll:List Nat→TGs
 | []=>gNil
 | i::is=>Y15 (Za9 i) (gAll is)
theorem Fx{w:Vw}{H:Hp}{Q:L2.St→Hp→Prop}{QD:DEnv→Prop}(k:∀σ' σD',REnv w σD' σ'→QD σD'→Q σ' H):∀(is:List Nat) {ds:List D} {vs:List V} {σ:L2.St} {σD:DEnv},RDs w ds vs→ds.length=is.length→REnv w σD σ→
  QD ((is.zip ds).foldl (fun σ p=>σ.set p.1 (some p.2)) σD)→gAll is vs σ H Q
 | [],ds,vs,σ,σD,r,hl,e,q=>by
  cases List.length_eq_zero_iff.mp hl
  cases rds0 r
  exact⟨rfl,k _ _ e q⟩
 | i::is,ds,vs,σ,σD,r,hl,e,q=>by
  cases ds with
  | nil=>simp at hl
  | cons d ds=>
   unfold RDs at r
   obtain⟨v,vr,rfl,h1,h2⟩:=r
   refine⟨v,vr,rfl,?_⟩
   show gAll is vr (σ.set i (some v)) H Q
   exact Fx k is h2 (by simpa using hl) (e.set i h1) q
section
variable{X:Cx}{w0:Vw}
theorem PG.imp{e:Expr}{t t':TG}(h:PG X e t)(k:∀v σ H Q,t' v σ H Q→t v σ H Q):PG X e t':=fun pins s σ H v u Q I r q=>h pins s σ H v u Q I r (k v σ H Q q)
theorem Y45{i:Nat}{e:Expr}(h:PG X e (Za9 i)):PG X e (gF w0 [i]):=PG.imp h fun v σ H Q zz69=>by obtain⟨w,σD,M,d,QD,S,r,g,k⟩:=zz69;exact k _ _ (S.env.set i r) g
theorem Zt9{is:List Nat}{e:Expr}(hl:2≤is.length)(h:PG X e (gTup X.K is.length (gAll is))):PG X e (gF w0 is):=PG.imp h fun v σ H Q ⟨w,σD,M,d,QD,S,r,g,k⟩=>by
 unfold tgD at g
 split at g
 ·simp at hl
 ·obtain⟨a,vs,rfl,q1,q2⟩:=Xe.mp r
  obtain⟨g1,g2⟩:=g
  rw[S.heap] at q1
  exact⟨a,vs,rfl,.of q1,by rw[q2.length];exact g1,Fx k is q2 g1 S.env g2⟩
 ·exact g.elim
end
structure Ck where
 N:List Str
 sc:Scope
 FN:List Str
 GN:List Str
 BN:List Str
 loops:Bool
 calm:Bool
 tries:Bool
 raises:List Nat
 cells:Bool
 own:List Str
noncomputable def G8(scope:Scope):List Str:=(scope.names.filter fun y=>y.2== .cell).map (·.1)
noncomputable def Ck.vis(k:Ck)(x:Str):Bool:=(k.sc.names.lookup x==some .local || k.sc.names.lookup x==some .cell || k.sc.names.lookup x==some .free)&&!(x==("__debug__":Str))&&!(x==("__classdict__":Str))
noncomputable def Ck.glob(k:Ck)(x:Str):Bool:=k.sc.names.lookup x==some .globalImplicit&&!(x==("__debug__":Str))&&!(x==("__name__":Str))
noncomputable def Ck.loc(k:Ck)(x:Str):Bool:=k.sc.names.lookup x==some .local
noncomputable def Ck.locC(k:Ck)(x:Str):Bool:=k.loc x || ((k.cells || k.own.contains x)&&k.sc.names.lookup x==some .cell)
noncomputable def Z77:Expr→Bool
 | .Call (.Name x _) [] [] _=>x !=("super":Str)
 | _=>true
noncomputable def Gp:Expr→Bool
 | .Slice ..=>false
 | _=>true
noncomputable def C0:Expr→Bool
 | .Set ..=>false
 | _=>true
noncomputable def Td:Expr→Bool
 | .Starred ..=>false
 | _=>true
noncomputable def isIn:Cm→Bool
 | .isin | .notin=>true
 | _=>false
noncomputable def Zo0(k:Ck):List Nat→List Expr→Bool
 | [],[]=>true
 | i::is,.Name x _::es=>k.N[i]?==some x&&k.locC x&&Zo0 k is es
 | _,_=>false
noncomputable def Pg(k:Ck)(is:List Nat):Expr→Bool
 | .Name x _=>match is with
  | [i]=>k.N[i]?==some x&&k.locC x
  | _=>false
 | .Tuple es _ _=>k.calm&&decide (2≤is.length)&&Zo0 k is es
 | _=>false
noncomputable def isM1:Expr→Bool
 | .UnaryOp .USub (.Constant (.int j) _ _) _=>j==1
 | _=>false
noncomputable def itTg:It→Expr→Bool
 | .enm _,.Tuple ..=>true
 | .enm _,_=>false
 | .zip _,.Tuple ..=>true
 | .zip _,_=>false
 | _,_=>true
mutual
noncomputable def chkE(k:Ck):E→Expr→Bool
 | .var i,.Name x _=>k.N[i]?==some x&&k.vis x
 | .int i,.Constant (.int j) _ _=>i==j
 | .bl b,.Constant (.bool c) _ _=>b==c
 | .non,.Constant .none _ _=>true
 | .str x,.Constant (.str y) _ _=>x==y
 | .ty t,.Name x _=>x==Str.ofString (Xd t)&&k.glob x&&k.BN.contains x
 | .glb g,.Name x _=>k.GN[g]?==some x&&k.glob x
 | .bin op a b,.BinOp l o r _=>o==opOf op&&chkE k a l&&chkE k b r
 | .not a,.UnaryOp .Not l _=>chkE k a l
 | .cmp op a b,.Compare l [o] [r] _=>o==cmOf op&&(!isIn op || C0 r)&&chkE k a l&&chkE k b r
 | .bop true es,.BoolOp .And ls _=>Wl k es ls
 | .bop false es,.BoolOp .Or ls _=>Wl k es ls
 | .ife t a b,.IfExp x l r _=>chkE k t x&&chkE k a l&&chkE k b r&&noIf t
 | .lst es,.List ls _=>Wl k es ls
 | .tup es,.Tuple ls _ _=>Wl k es ls
 | .dict0,.Dict [] [] _=>true
 | .dct2 a b c d,.Dict [some l,some l2] [r,r2] _=>chkE k a l&&chkE k b r&&chkE k c l2&&chkE k d r2
 | .dct a b,.Dict [some l] [r] _=>chkE k a l&&chkE k b r
 | .ix a b,.Subscript l r _=>Gp r&&chkE k a l&&chkE k b r
 | .sl a lo hi,.Subscript l (.Slice x y none _) _=>chkE k a l&&chkO k lo x&&chkO k hi y
 | .setf b a,.Call (.Name x _) [.Call (.Name y _) [l] [] _] [] _=>k.calm&&x==(if b then "sorted" else "len":Str)&&y==("set":Str)&&k.glob x&&k.glob y&&k.BN.contains x&&k.BN.contains y&&Td l&&chkE k a l
 | .rev a,.Subscript l (.Slice none none (some z) _) _=>chkE k a l&&isM1 z
 | .call f es,.Call (.Name x _) ls [] _=>k.calm&&k.FN[f]?==some x&&k.glob x&&Wl k es ls
 | .bf b es,.Call (.Name x _) (l::ls) [] _=>(k.calm || Vx b)&&x==(bfOf b).1&&k.glob x&&k.BN.contains x&&Wl k es (l::ls)
 | .mt m o es,.Call (.Attribute l nm ap) ls [] cp=>nm==mtN m&&Z77 l&&ap.endLine==cp.line&&decide (ls.length<30)&&chkE k o l&&Wl k es ls
 | .comp N' js tg it cd e,.ListComp el [⟨t,iter,ifs,0⟩] scope _=>k.calm&&Ti k.sc k.N N' js scope&&C0 iter&&Zb9 k it iter&&decide N'.Nodup&&
   Pg {k with N:=N',sc:=Wu scope k.sc,cells:=false,own:=G8 scope,tries:=false,raises:=[]} tg t&&chkC {k with N:=N',sc:=Wu scope k.sc,cells:=false,own:=G8 scope,tries:=false,raises:=[]} cd ifs&&chkE {k with N:=N',sc:=Wu scope k.sc,cells:=false,own:=G8 scope,tries:=false,raises:=[]} e el&&itTg it t
 | _,_=>false
noncomputable def Wl(k:Ck):Es→List Expr→Bool
 | .nil,[]=>true
 | .cons e r,x::xs=>chkE k e x&&Td x&&Wl k r xs
 | _,_=>false
noncomputable def chkO(k:Ck):Eo→Option Expr→Bool
 | .no,none=>true
 | .yes e,some x=>chkE k e x
 | _,_=>false
noncomputable def chkC(k:Ck):Eo→List Expr→Bool
 | .no,[]=>true
 | .yes e,[x]=>chkE k e x&&noIf e
 | _,_=>false
noncomputable def Zb9(k:Ck):It→Expr→Bool
 | .seq e,x=>chkE k e x
 | .fro e,x=>chkE k e x
 | .rng1 a,.Call (.Name x _) [l] [] _=>x==("range":Str)&&k.glob x&&k.BN.contains x&&Td l&&chkE k a l
 | .rng2 a b,.Call (.Name x _) [l,r] [] _=>x==("range":Str)&&k.glob x&&k.BN.contains x&&Td l&&Td r&&chkE k a l&&chkE k b r
 | .enm e,.Call (.Name x _) [l] [] _=>x==("enumerate":Str)&&k.glob x&&k.BN.contains x&&Td l&&chkE k e l
 | .zip es,.Call (.Name x _) (l::ls) [] _=>x==("zip":Str)&&k.glob x&&k.BN.contains x&&Wl k es (l::ls)
 | _,_=>false
noncomputable def noIf:E→Bool
 | .ife _ _ _=>false
 | .not a=>noIf a
 | .bop _ es=>Ew es
 | _=>true
noncomputable def Ew:Es→Bool
 | .nil=>true
 | .cons e r=>noIf e&&Ew r
end
def Zb1(X:Cx)(x:Str)(sp:DSp):Prop:=
 ∃(kk:Nat) (f:Addr) (fd:FuncData) (ps:List Str) (ds:List Value) (dvs:List V) (dD:List D) (sp0:DSp),FnOk X.prog X.w X.K X.mg X.base (CX1 X.prog X.w) kk f fd ps (spF X.K sp0)∧Room kk X.A∧X.mg x=some (.ref f)∧PySem.W.keepIn X.K (.ref f)=true∧
  Ym X.K fd ps ds∧Vals dvs ds∧(∀w:Vw,w.K=X.K→RDs w dD dvs)∧∀as M Q Z,sp as M Q Z→sp0 (as++dD) M Q Z
structure Good(c:Cfg)(k:Ck)(Z:DX)(w0:Vw)(X:Cx):Prop where
 hK:X.K=c.K
 wK:w0.K=c.K
 N:X.N=k.N
 nd:X.N.Nodup
 sc:X.env.scope=k.sc
 calm:k.calm=true→X.calm=true
 units:X.A.units+64<cLine
 fns:k.calm=true→∀(f:Nat) (x:Str) (sp:DSp),k.FN[f]?=some x→c.Γ[f]?=some sp→Zb1 X x sp
 flen:k.FN.length=c.Γ.length
 glb:∀(g:Nat) (x:Str) (d:D),k.GN[g]?=some x→c.G[g]?=some d→∃v u,X.mg x=some u∧RelV v u∧∀w:Vw,w.K=X.K→RD w d v
 blt:∀x,x∈k.BN→X.mg x=none
 exc:∃E,Fp (CX1 X.prog X.w) X E∧∀cls dd H',xkOf w0 Z cls dd H'→E cls dd H'
 stk:k.tries=true→X.stack=X.env::X.outer∧X.env.frame=some X.env.locals
 po:k.loops=true→PassesOwn (model X.prog X.w) X.A X.env X.xe
 fnc:k.cells=true→∀x,X.fn x=true
 fno:∀x,x∈k.own→X.fn x=true
theorem Z32{w w':Vw}{Z:DX}{cls:Value}{dd:Option Addr}{H':Hp}(x:Ext w w')(h:xkOf w' Z cls dd H'):xkOf w Z cls dd H':=by
 obtain⟨C,dx,r,w2,row,M,e1,e2,e3,e4,h5⟩:=h
 exact⟨C,dx,r,w2,row,M,e1,e2,e3,x.trans e4,h5⟩
def ttD(f:DE):DT:=fun σ M Q=>f σ M fun x M1=>truD M1 x fun b=>Q b M1
section
variable{c:Cfg}{k:Ck}{Z:DX}{w0:Vw}{X:Cx}
theorem Good.gl(G:Good c k Z w0 X){x:Str}(h:k.glob x=true):Gl X x∧(x==("__debug__":Str))=false∧x≠"__name__":=by
 unfold Ck.glob at h
 simp only[Bool.and_eq_true,beq_iff_eq,Bool.not_eq_true',beq_eq_false_iff_ne] at h
 refine⟨?_,by simpa using h.1.2,h.2⟩
 unfold Gl Env.kindOf
 rw[G.sc];exact h.1.1
theorem Good.vis(G:Good c k Z w0 X){x:Str}(h:k.vis x=true):Vis X.env.scope x∧(x==("__debug__":Str))=false∧(x==("__classdict__":Str))=false:=by
 unfold Ck.vis at h
 simp only[Bool.and_eq_true,beq_iff_eq,Bool.not_eq_true',Bool.or_eq_true] at h
 refine⟨?_,h.1.2,h.2⟩
 unfold Vis
 rw[G.sc]
 rcases h.1.1 with(q | q) | q
 ·exact .inl q
 ·exact .inr (.inl q)
 ·exact .inr (.inr q)
theorem Good.locC(G:Good c k Z w0 X){x:Str}(h:k.locC x=true):Loc X.env.scope x∧(X.fn x=true∨X.env.scope.names.lookup x=some .local):=by
 unfold Ck.locC Ck.loc at h
 rw[Bool.or_eq_true,Bool.and_eq_true] at h
 rcases h with h | ⟨h1,h2⟩
 ·have hl:X.env.scope.names.lookup x=some .local:=by rw[G.sc];exact eq_of_beq h
  exact⟨.inl hl,.inr hl⟩
 ·refine⟨.inr (by rw[G.sc];exact eq_of_beq h2),.inl ?_⟩
  rw[Bool.or_eq_true,List.contains_iff_mem] at h1
  rcases h1 with z | z
  ·exact G.fnc z x
  ·exact G.fno x z
theorem Good.eK(G:Good c k Z w0 X):X.K=w0.K:=G.hK.trans G.wK.symm
theorem StOk.K{w w0:Vw}{σD:DEnv}{M:Z2}{σ:L2.St}{H:Hp}(S:StOk w0 w σD M σ H):w.K=w0.K:=S.ext.K
theorem Y7{f:DE}{σ:L2.St}{w:Vw}{σD:DEnv}{M:Z2}{H:Hp}{Q:VK}{QD:DK}(S:StOk w0 w σD M σ H)(h:f σD M QD)(a:Aft w QD Q):tF w0 f σ H Q:=⟨w,σD,M,QD,S,h,a⟩
theorem Nn{l:Expr}{nm:Str}{env:Env}(h:Z77 l=true):attributeBase l nm env (eval l env)=eval l env:=by
 unfold attributeBase
 split
 ·rename_i id np pos
  have:(id !="super" || nm=="__class__" || env.kindOf "super" !=some .globalImplicit || env.kindOf "__class__" !=some .free)=true:=by
   have:(id !=("super":Str))=true:=h
   rw[this];rfl
  simp only[this,if_true]
 ·rfl
theorem Zs{x:Expr}{xs:List Expr}{env:Env}(h:Td x=true):starEach (x::xs) env=(false,eval x env)::starEach xs env:=by
 cases x<;>first | rfl | cases h
theorem Wc{k:Ck}{env:Env}:∀(es:Es) (xs:List Expr),Wl k es xs=true→(starEach xs env).all (fun p=> !p.1)=true
 | .nil,[],_=>rfl
 | .nil,_::_,h=>by simp[Wl] at h
 | .cons e r,[],h=>by simp[Wl] at h
 | .cons e r,x::xs,h=>by
  simp only[Wl,Bool.and_eq_true] at h
  rw[Zs h.1.2]
  simp only[List.all_cons,Bool.not_false,Bool.true_and]
  exact Wc r xs h.2
theorem Rf{pos:Pos}{l:List (Bool×Sem Value)}(h:l.all (fun p=> !p.1)=true):(backTo pos l).any (·.1)=false:=by
 induction l with
 | nil=>rfl
 | cons p r ih=>
  simp only[List.all_cons,Bool.and_eq_true,Bool.not_eq_true'] at h
  show(p.1 || (backTo pos r).any (·.1))=false
  rw[h.1,ih h.2];rfl
theorem Zg1{pos:Pos}{l:List (Bool×Sem Value)}(h:l.all (fun p=> !p.1)=true):(backTo pos l).all (fun x=> !x.1)=true:=by
 induction l with
 | nil=>rfl
 | cons p r ih=>
  simp only[List.all_cons,Bool.and_eq_true] at h
  show((!p.1)&&(backTo pos r).all (fun x=> !x.1))=true
  rw[h.1,ih h.2];rfl
theorem Y63{f:DE}{ex:Expr}(G:Good c k Z w0 X)(h:PE X ex (tF w0 f))(he:∀whole,isTrue ex X.env whole=(do let v ←whole;standAt ex.pos;holding [v] (truthy v))):PT X ex (tFT w0 (ttD f)):=by
 refine PT.imp (Zh8 h he) fun σ H Q zz71=>?_
 obtain⟨w,σD,M,QD,S,g,a⟩:=zz71
 refine Y7 S g fun v w' d M' x r rd q=>?_
 obtain⟨b,t1,t2⟩:=Tl (K:=X.K) (by rw[x.K,S.K,G.eK]) r rd q
 exact⟨b,t1,a b w' M' x r t2⟩
theorem Zv1{f:DE}{ex:Expr}(h:PT X ex (Zx4 (tF w0 f)))(hb:∀σD M QD,f σD M QD→f σD M fun d M'=>(∃b,d= .bl b)∧QD d M'):PT X ex (tFT w0 (ttD f)):=by
 refine PT.imp h fun σ H Q zz72=>?_
 obtain⟨w,σD,M,QD,S,g,a⟩:=zz72
 refine Y7 S (hb _ _ _ g) fun v w' d M' x r rd q=>?_
 obtain⟨⟨b,rfl⟩,q⟩:=q
 cases Xs.mp rd
 exact⟨b,rfl,a b w' M' x r q⟩
theorem Z63{fa fb:DE}{g:D→D→Z2→DK→Prop}{σ:L2.St}{H:Hp}{Q:VK}(h:tF w0 (fun σD M QD=>fa σD M fun x M1=>fb σD M1 fun y M2=>g x y M2 QD) σ H Q):tOp (rF w0 g) (tF w0 fa) (tF w0 fb) σ H Q:=by
 obtain⟨w,σD,M,QD,S,g0,a⟩:=h
 refine Y7 S g0 fun x w1 dx M1 x1 r1 rx q1=>?_
 refine Y7 (S.next x1 r1) q1 fun y w2 dy M2 x2 r2 ry q2=>?_
 exact⟨w2,M2,dx,dy,QD,rfl,(S.ext.trans x1).trans x2,r2,rx.ext x2,ry,q2,a.ext (x1.trans x2)⟩
theorem Jc{fa fb:DE}{g:Z2→D→D→(Bool→Prop)→Prop}{σ:L2.St}{H:Hp}{Q:VK}(h:tF w0 (fun σD M QD=>fa σD M fun x M1=>fb σD M1 fun y M2=>g M2 x y fun b=>QD (.bl b) M2) σ H Q):tOp (rB w0 g) (tF w0 fa) (tF w0 fb) σ H Q:=by
 obtain⟨w,σD,M,QD,S,g0,a⟩:=h
 refine Y7 S g0 fun x w1 dx M1 x1 r1 rx q1=>?_
 refine Y7 (S.next x1 r1) q1 fun y w2 dy M2 x2 r2 ry q2=>?_
 exact⟨w2,M2,dx,dy,_,rfl,((S.ext.trans x1).trans x2).K,r2,rx.ext x2,ry,q2,fun b hb=>a _ w2 _ M2 (x1.trans x2) r2 (Xs.mpr rfl) hb⟩
theorem Zw2{a:Expr}{ta:TE}{pos:Pos}(ha:PE X a ta):PE X (.UnaryOp .Not a pos) (fun σ H Q=>ta σ H fun x H1=>∃b,TruV X.K x H1 b∧Q (.bl (!b)) H1):=by
 intro pins s σ H Q I h
 refine UnaryOp_ (thn (ha pins s σ H _ I h) fun v s1 zz73=>?_)
 obtain⟨x,H1,I1,r1,q1⟩:=zz73
 refine not_of (thn (Fy pins s1 σ H1 x v (fun b H2=>Q (.bl (!b)) H2) I1 r1 q1) fun b s2 zz74=>by obtain⟨H2,I2,q2⟩:=zz74;exact⟨.bl (!b),H2,I2,rfl,q2⟩)
theorem Zo5(t:Ty):bootBuiltins (Str.ofString (Xd t))=some (.type (Xd t)):=by
 cases t
 ·exact boot_int
 ·exact boot_str
 ·exact boot_bool
 ·exact boot_list
 ·exact boot_tuple
 ·exact boot_dict
 ·show bootBuiltins "ValueError"=some (.type "ValueError")
  decide+kernel
theorem Qe:bootBuiltins "sorted"=some (.builtin "sorted"):=by decide+kernel
theorem Zf8:bootBuiltins "set"=some (.type "set"):=by decide+kernel
theorem Zp8(b:Bf):bootBuiltins (bfOf b).1=some (bfOf b).2:=by
 cases b<;>first | exact PySem.boot_len | exact boot_isinstance | exact PyProof.Rows.boot_min | exact PyProof.Rows.boot_max | exact boot_list | exact boot_tuple | exact boot_dict | exact boot_str | exact Qe | exact boot_int
end
def JOk(w1:Vw)(J:L2.It)(own:Own)(xs:List D):Prop:=∀w M,Ext w1 w→RS w M→O2 own xs M→∀i:Nat,
 (∀d,xs[i]?=some d→J.go i w.H∧∀x H',J.yld i w.H x H'→∃w',w'.H=H'∧Ext w w'∧RS w' M∧RD w' d x)∧(xs.length≤i→J.stop i w.H)
def iF(w0:Vw)(f:DEnv→Z2→(Own→List D→Z2→Prop)→Prop):TI:=fun σ H R=>∃w σD M QD,StOk w0 w σD M σ H∧f σD M QD∧
 ∀J w' own xs M',Ext w w'→RS w' M'→JOk w' J own xs→QD own xs M'→R J w'.H
section
variable{c:Cfg}{k:Ck}{Z:DX}{w0:Vw}{X:Cx}
theorem PI.imp{tg it:Expr}{t t':TI}(h:PI X tg it t)(q:∀σ H R,t' σ H R→t σ H R):PI X tg it t':=fun pins s σ H R I z=>h pins s σ H R I (q σ H R z)
theorem Y37{tg l:Expr}{tl:TE}(hl:PE X l tl):PI X tg l (fun σ H R=>tl σ H fun x H1=>(∃a,x= .ref a∧(∃xs,SqL X.K H1 a xs)∧R (Itl X.K a) H1)∨∃a,x= .ref a∧(∃xs,SqT X.K H1 a xs)∧R (Itt X.K a) H1):=by
 intro pins s σ H R I h
 refine thn (hl pins s σ H _ I h) fun v s1 zz75=>?_
 obtain⟨x,H1,I1,r1,q1⟩:=zz75
 have fp:∀b∈[s1.heap.objs.size],FpOk X pins H1 b:=fun b hb=>by
  have e:b=s1.heap.objs.size:=by simpa using hb
  subst e
  exact I1.fpOk (Nat.le_refl _) (I1.hok.fresh (Nat.le_refl _))
 rcases q1 with⟨a,e,⟨xs,hq⟩,q⟩ | ⟨a,e,⟨xs,hq⟩,q⟩
 ·subst e
  cases r1
  obtain⟨its,rv,p,hz⟩:=I1.list hq
  refine wpAny_pyIter_list p.isList ?_
  exact⟨s1.heap.objs.size,[s1.heap.objs.size],_,_,H1,rfl,I1.kept (t':=s1.toks) fun b o e=>Heap.get?_push_of_some _ e,Z73 a _,⟨_,Heap.get?_push_size _ rfl,rfl,rfl⟩,fp,q⟩
 ·subst e
  cases r1
  obtain⟨its,rv,p,hz⟩:=I1.tuple hq
  refine wpAny_pyIter_tuple (show s1.heap.IsTuple a its.toArray from p) ?_
  exact⟨s1.heap.objs.size,[s1.heap.objs.size],_,_,H1,rfl,I1.kept (t':=s1.toks) fun b o e=>Heap.get?_push_of_some _ e,Cp a _,⟨_,Heap.get?_push_size _ rfl,rfl,rfl⟩,fp,q⟩
theorem Y01{tg l:Expr}{tl:TE}(hl:PE X l tl):PI X tg l (fun σ H R=>tl σ H fun x H1=>∃a o kvs,x= .ref a∧H1 a=some (.frz o (.dK kvs))∧R (Itd a o) H1):=by
 intro pins s σ H R I h
 refine thn (hl pins s σ H _ I h) fun v s1 zz76=>?_
 obtain⟨x,H1,I1,r1,a,o,kvs,e,hq,q⟩:=zz76
 subst e
 cases r1
 obtain⟨e0,z,hs,vs0,rel0,dd0⟩:=I1.hok a _ hq
 obtain⟨o',es,ep,e',h1,hd,h3⟩:=id dd0
 rw[e0] at e'
 cases e'
 obtain⟨vs,rel,dd,hlen⟩:=E8 (I1.hok a _ hq) hd
 refine wpAny_pyIter_dict hs dd ?_
 have fp:∀b∈[s1.heap.objs.size],FpOk X pins H1 b:=fun b hb=>by
  have e:b=s1.heap.objs.size:=by simpa using hb
  subst e
  exact I1.fpOk (Nat.le_refl _) (I1.hok.fresh (Nat.le_refl _))
 rw[hlen]
 exact⟨s1.heap.objs.size,[s1.heap.objs.size],_,_,H1,rfl,I1.kept (t':=s1.toks) fun b o e=>Heap.get?_push_of_some _ e,Nm a _ hd,⟨_,Heap.get?_push_size _ rfl,rfl,rfl⟩,fp,q⟩
theorem Zt2{tg l:Expr}{tl:TE}(hl:PE X l tl):PI X tg l (fun σ H R=>tl σ H fun x H1=>∃a kvs,x= .ref a∧H1 a=some (.dK kvs)∧∀o,(∀o' u,X.H₀ a≠some (.frz o' u))→R (Itd a o) (upd H1 a (.frz o (.dK kvs)))):=by
 intro pins s σ H R I h
 refine thn (hl pins s σ H _ I h) fun v s1 zz77=>?_
 obtain⟨x,H1,I1,r1,a,kvs,e,hq,q⟩:=zz77
 subst e
 cases r1
 obtain⟨o,es,ep,hd,ho,I2,nf⟩:=Zd7 I1 hq
 obtain⟨vs,rel,dd,hlen⟩:=E8 (I2.hok a _ Zw) hd
 obtain⟨_,hs,_⟩:=Z20 I1.hok hq
 refine wpAny_pyIter_dict hs dd ?_
 have fresh:upd H1 a (.frz o (.dK kvs)) s1.heap.objs.size=none:=I2.hok.fresh (Nat.le_refl _)
 have fp:∀b∈[s1.heap.objs.size],FpOk X pins (upd H1 a (.frz o (.dK kvs))) b:=fun b hb=>by
  have e:b=s1.heap.objs.size:=by simpa using hb
  subst e
  exact I2.fpOk (Nat.le_refl _) fresh
 rw[hlen]
 exact⟨s1.heap.objs.size,[s1.heap.objs.size],_,_,_,rfl,I2.kept (t':=s1.toks) fun b o e=>Heap.get?_push_of_some _ e,Nm a _ hd,⟨_,Heap.get?_push_size _ rfl,rfl,rfl⟩,fp,q o nf⟩
theorem Zi9{w:Vw}:∀{ds:List (Key×D)} {vs:List (Key×V)} {i:Nat} {d:D},RKV w ds vs→(Om ds)[i]?=some d→∃p,vs[i]?=some p∧RD w d (kV p.1)
 | [],vs,i,d,h,e=>by simp[Om] at e
 |(k,x)::ds,vs,i,d,h,e=>by
  unfold RKV at h
  obtain⟨v,r,rfl,h1,h2⟩:=h
  cases i with
  | zero=>
   cases e
   refine⟨(k,v),rfl,?_⟩
   cases k with
   | inl i=>exact Ze.mpr rfl
   | inr x=>exact Y4.mpr rfl
  | succ i=>exact Zi9 (i:=i) h2 e
theorem Fu{w1:Vw}{n:Nat}{xs:List D}{o:Obj}{vs:List (Key×V)}(hn:n<w1.n)(h:w1.H (w1.μ n)=some (.frz o (.dK vs))):JOk w1 (Itd (w1.μ n) o) (.dct n) xs:=by
 intro w M x R st i
 obtain⟨kvs,st,rfl⟩:=st
 have q:=x.imm _ _ h rfl
 obtain⟨o',us,q1,q2⟩:=R.cell n _ st
 rw[x.μ n hn,q] at q1
 cases q1
 refine⟨fun d e=>?_,fun hl=>⟨vs,q,by rw[q2.length];unfold Om at hl;rw[List.length_map] at hl;exact hl⟩⟩
 obtain⟨p,z1,z2⟩:=Zi9 q2 e
 refine⟨⟨vs,p,q,z1⟩,fun y H' ⟨e1,e2⟩=>⟨w,e1.symm,Ext.refl w,R,?_⟩⟩
 obtain⟨p',z3,z4⟩:=e2 vs q
 rw[z1] at z3
 cases z3
 rw[z4]
 exact z2
theorem Ze2{w1:Vw}{n:Nat}{xs:List D}(hK:X.K=w1.K)(hn:n<w1.n):JOk w1 (Itl X.K (w1.μ n)) (.lst n) xs:=by
 intro w M x R st i
 obtain⟨_,vs,q1,q2,_⟩:=R.listL st
 rw[x.μ n hn,x.K,←hK] at q1
 refine⟨fun d e=>?_,fun hl=>⟨vs,q1,by rw[q2.length];exact hl⟩⟩
 obtain⟨v,z1,z2⟩:=q2.get e
 refine⟨⟨vs,v,q1,z1⟩,fun y H' ⟨e1,e2⟩=>⟨w,e1.symm,Ext.refl w,R,?_⟩⟩
 have:=e2 vs q1
 rw[z1] at this
 cases this
 exact z2
theorem Zc5{w1:Vw}{n:Nat}{xs:List D}(hK:X.K=w1.K)(hn:n<w1.n):JOk w1 (Ite X.K (w1.μ n)) (.enm n) xs:=by
 intro w M x R st i
 obtain⟨ys,st,rfl⟩:=st
 obtain⟨_,vs,q1,q2,_⟩:=R.listL st
 rw[x.μ n hn,x.K,←hK] at q1
 refine⟨fun d e=>?_,fun hl=>⟨vs,q1,by rw[q2.length];unfold Nh at hl;rw[List.length_mapIdx] at hl;exact hl⟩⟩
 unfold Nh at e
 rw[List.getElem?_mapIdx,Option.map_eq_some_iff] at e
 obtain⟨d,e,rfl⟩:=e
 obtain⟨v,z1,z2⟩:=q2.get e
 refine⟨⟨vs,v,q1,z1⟩,fun y H' zz80=>?_⟩
 obtain⟨p,u,hp,e1,e2,e3⟩:=zz80
 have:=e3 vs q1
 rw[z1] at this
 cases this
 subst e1 e2
 obtain⟨a1,a2,a3⟩:=Rm R hp (RDs.cons (Ze.mpr (rfl:V.int (i:Int)=_)) (RDs.cons z2 (RDs.nil w)))
 exact⟨_,rfl,a1,a2,a3⟩
theorem Zp3{w:Vw}{ys zs:List D}{us vs:List V}(h1:RDs w ys us)(h2:RDs w zs vs){i:Nat}{d:D}(e:(zipT ys zs)[i]?=some d):∃x y u v,d= .tup [x,y]∧us[i]?=some u∧vs[i]?=some v∧RD w x u∧RD w y v:=by
 unfold zipT at e
 rw[List.getElem?_map,Option.map_eq_some_iff] at e
 obtain⟨p,e,rfl⟩:=e
 rw[List.getElem?_zip_eq_some] at e
 obtain⟨u,a1,a2⟩:=h1.get e.1
 obtain⟨v,b1,b2⟩:=h2.get e.2
 exact⟨_,_,u,v,rfl,a1,b1,a2,b2⟩
theorem Zv2{w1:Vw}{n m:Nat}{xs:List D}(hK:X.K=w1.K)(hn:n<w1.n)(hm:m<w1.n):JOk w1 (Itz X.K (w1.μ n) (w1.μ m)) (.two n m) xs:=by
 intro w M x R st i
 obtain⟨ys,zs,st,st2,rfl⟩:=st
 obtain⟨_,us,q1,q2,_⟩:=R.listL st
 obtain⟨_,vs,p1,p2,_⟩:=R.listL st2
 rw[x.μ n hn,x.K,←hK] at q1
 rw[x.μ m hm,x.K,←hK] at p1
 refine⟨fun d e=>?_,fun hl=>⟨us,vs,q1,p1,?_⟩⟩
 ·obtain⟨dx,dy,u,v,rfl,a1,a2,a3,a4⟩:=Zp3 q2 p2 e
  refine⟨⟨us,vs,u,v,q1,p1,a1,a2⟩,fun y H' zz81=>?_⟩
  obtain⟨p,u',v',hp,e1,e2,e3,e4⟩:=zz81
  have h3:=e3 us q1
  have h4:=e4 vs p1
  rw[a1] at h3
  rw[a2] at h4
  cases h3
  cases h4
  subst e1 e2
  obtain⟨b1,b2,b3⟩:=Rm R hp (RDs.cons a3 (RDs.cons a4 (RDs.nil w)))
  exact⟨_,rfl,b1,b2,b3⟩
 ·have l1:=q2.length
  have l2:=p2.length
  unfold zipT at hl
  rw[List.length_map,List.length_zip] at hl
  omega
theorem Z56{w1:Vw}{a:Addr}{vs:List V}{xs:List D}(hK:X.K=w1.K)(h:SqT w1.K w1.H a vs)(r:RDs w1 xs vs):JOk w1 (Itt X.K a) .no xs:=by
 intro w M x R st i
 have q1:=x.sqT h
 rw[x.K,←hK] at q1
 have q2:=r.ext x
 refine⟨fun d e=>?_,fun hl=>⟨vs,q1,by rw[q2.length];exact hl⟩⟩
 obtain⟨v,z1,z2⟩:=q2.get e
 refine⟨⟨vs,v,q1,z1⟩,fun y H' ⟨e1,e2⟩=>⟨w,e1.symm,Ext.refl w,R,?_⟩⟩
 have:=e2 vs q1
 rw[z1] at this
 cases this
 exact z2
theorem Z40{w1:Vw}{lo:Int}{n:Nat}:JOk w1 (Itr lo n) .no (Qq lo n):=by
 intro w M x R st i
 unfold Qq
 refine⟨fun d e=>?_,fun hl=>?_⟩
 ·rw[List.getElem?_map,Option.map_eq_some_iff] at e
  obtain⟨j,h1,rfl⟩:=e
  obtain⟨h2,h3⟩:=List.getElem?_eq_some_iff.mp h1
  have hj:j=i:=by simpa using h3.symm
  subst hj
  have h4:j<n:=by simpa using h2
  exact⟨h4,fun y H' zz83=>by obtain⟨e1,e2⟩:=zz83;exact⟨w,e1.symm,Ext.refl w,R,by rw[e2];exact Ze.mpr rfl⟩⟩
 ·have:n≤i:=by simpa using hl
  exact this
theorem Z24{X:Cx}{N':List Str}{scope:Scope}{cl:List (Str×Addr)}{C:Addr}{fp:List Addr}{pins:List (Addr×Obj)}{s:Shared}{H:Hp}:(cxC X N' scope cl C fp pins s H).env.scope=Wu scope X.env.scope:=rfl
theorem Good.block(G:Good c k Z w0 X)(hc:k.calm=true){N':List Str}{scope:Scope}(hn:N'.Nodup)(cl:List (Str×Addr))(C:Addr)(fp:List Addr)(pins:List (Addr×Obj))(s:Shared)(H:Hp):
  Good c {k with N:=N',sc:=Wu scope k.sc,cells:=false,own:=G8 scope,tries:=false,raises:=[]} noX w0 (cxC X N' scope cl C fp pins s H) where
 hK:=G.hK
 wK:=G.wK
 N:=rfl
 nd:=hn
 sc:=by rw[Z24,G.sc]
 calm:=fun _=>G.calm hc
 units:=G.units
 fns:=fun _ f x sp h1 h2=>by
  obtain⟨kk,f,fd,ps,ds,dvs,dD,sp0,h⟩:=G.fns hc f x sp h1 h2
  exact⟨kk,f,fd,ps,ds,dvs,dD,sp0,h⟩
 flen:=G.flen
 glb:=G.glb
 blt:=G.blt
 exc:=⟨E0,fun _ _ _ _ _ _ _ h=>by
  obtain⟨_,_,_,_,_,_,_,_,_,_,_,_,_,_,_,h⟩:=h
  exact h.elim,fun cls dd H' h=>by
  obtain⟨_,_,_,_,_,_,_,_,_,_,_,_,_,h⟩:=h
  exact h.elim⟩
 stk:=fun h=>by cases h
 po:=fun _=>PassesOwn.never
 fnc:=fun h=>by cases h
 fno:=fun x hx=>by
  show(scope.names.any fun y=>y.1==x&&y.2==NameKind.cell)=true
  have hx:x∈(scope.names.filter fun y=>y.2==NameKind.cell).map (·.1):=hx
  obtain⟨y,hy,rfl⟩:=List.mem_map.mp hx
  obtain⟨h1,h2⟩:=List.mem_filter.mp hy
  rw[List.any_eq_true]
  exact⟨y,h1,by rw[beq_self_eq_true,Bool.true_and];exact h2⟩
theorem Good.tgt(G:Good c k Z w0 X):∀(is:List Nat) (ex:Expr),Pg k is ex=true→PG X ex (gF w0 is):=by
 have one:∀(i:Nat) (x:Str) (pos:Pos),k.N[i]?=some x→k.locC x=true→PG X (.Name x pos) (Za9 i):=fun i x pos h1 h2=>by
  obtain⟨l1,l2⟩:=G.locC h2
  exact Zr0 G.nd (by rw[G.N];exact h1) l1 l2
 have many:∀(is:List Nat) (es:List Expr),Zo0 k is es=true→PGs X es (gAll is)∧(assignEach es X.env).length=is.length∧(assignEach es X.env).findIdx? (·.1)=none:=by
  intro is
  induction is with
  | nil=>
   intro es h
   cases es with
   | nil=>exact⟨Zv3,rfl,rfl⟩
   | cons e es=>exact absurd h Bool.false_ne_true
  | cons i is ih=>
   intro es h
   cases es with
   | nil=>exact absurd h Bool.false_ne_true
   | cons e es=>
    cases e with
    | Name x pos=>
     change (_&&_)=true at h
     simp only[Bool.and_eq_true,beq_iff_eq] at h
     obtain⟨h1,h2,h3⟩:=ih es h.2
     refine⟨Zd1 (one i x pos h.1.1 h.1.2) h1 rfl,?_,?_⟩
     ·show(assignEach es X.env).length+1=is.length+1
      rw[h2]
     ·show((false,_)::assignEach es X.env).findIdx? (·.1)=none
      rw[List.findIdx?_cons,h3]
      rfl
    | _=>exact absurd h Bool.false_ne_true
 intro is ex h
 cases ex with
 | Name x pos=>
  match is,h with
  | [i],h=>
   change (_&&_)=true at h
   simp only[Bool.and_eq_true,beq_iff_eq] at h
   exact Y45 (one _ x pos h.1 h.2)
  | [],h=>exact absurd h Bool.false_ne_true
  | _::_::_,h=>exact absurd h Bool.false_ne_true
 | Tuple es kk pos=>
  change (_&&_)=true at h
  simp only[Bool.and_eq_true,decide_eq_true_eq] at h
  obtain⟨h1,h2,h3⟩:=many is es h.2
  exact Zt9 h.1.2 (Zy9 (G.calm h.1.1) h1 h2 h3)
 | _=>exact absurd h Bool.false_ne_true
theorem Zt5{w:Vw}{js:List (Option Nat)}{σD:DEnv}{σ:L2.St}(h:REnv w σD σ):REnv w (capD js σD) (Tv js σ):=by
 refine⟨by unfold capD Tv;simp,fun i d e=>?_⟩
 unfold capD at e
 unfold Tv
 rw[List.getElem?_map] at e ⊢
 cases hj:js[i]? with
 | none=>rw[hj] at e;cases e
 | some o=>
  rw[hj] at e
  simp only[Option.map_some,Option.some.injEq] at e ⊢
  cases o with
  | none=>cases e
  | some j=>
   simp only[Option.bind_some] at e ⊢
   cases hz:σD[j]? with
   | none=>rw[hz] at e;cases e
   | some z=>
    rw[hz] at e
    have e':z=some d:=e
    subst e'
    obtain⟨v,q1,q2⟩:=h.2 j d hz
    exact⟨v,by rw[q1];rfl,q2⟩
theorem Zd0{w1:Vw}{J:L2.It}{own:Own}{xs:List D}{tg:List Nat}{cd:DT}{el:DE}{M1:Z2}{H1:Hp}{σD:DEnv}{σ:L2.St}{QD:Z2→Prop}{Q:VK}(e0:Ext w0 w1)(hH:w1.H=H1)(R1:RS w1 M1)(env:REnv w1 σD σ)(jk:JOk w1 J own xs)
  (h:Jq own xs tg cd el M1.length xs σD (M1++[.lst []]) QD) (a:Aft w1 (fun d M=>d= .ref M1.length∧QD M) Q):∀p,H1 p=none→∃W:Nat→Nat→L2.St→Hp→Prop,(∃m,W 0 m σ (upd H1 p (.lst [])))∧
   ∀i m σc Hc,W i m σc Hc→(J.stop i Hc∧Q (.ref p) Hc)∨(J.go i Hc∧∀x H',J.yld i Hc x H'→gF w0 tg x σc H' fun σ2 H2=>tFT w0 cd σ2 H2 fun b H3=>if b=true then tF w0 el σ2 H3 fun y H4=>∃acc,H4 p=some (.lst acc)∧acc.length<sizeLine∧
    ∃m',m'<m∧W (i+1) m' σ2 (upd H4 p (.lst (acc++[y]))) else ∃m',m'<m∧W (i+1) m' σ2 H3):=by
 intro p hp
 subst hH
 obtain⟨x1,R2,rz⟩:=Xi (xs:=[]) R1 hp (RDs.nil w1)
 have hz:M1.length< (w1.push p (.lst [])).n∧p=(w1.push p (.lst [])).μ M1.length:=by
  obtain⟨z1,z2⟩:=Zh.mp rz
  exact⟨z1,by injection z2⟩
 refine⟨fun i m σc Hc=>∃w σE M,StOk w0 w σE M σc Hc∧Ext (w1.push p (.lst [])) w∧i≤xs.length∧m=xs.length - i∧Jq own xs tg cd el M1.length (xs.drop i) σE M QD,⟨xs.length,w1.push p (.lst []),σD,_,⟨rfl,e0.trans x1,R2,env.ext x1⟩,Ext.refl _,Nat.zero_le _,rfl,h⟩,?_⟩
 rintro i m σc Hc ⟨w,σE,M,S,x2,hi,rfl,hc⟩
 have x12:Ext w1 w:=x1.trans x2
 have hp':w.μ M1.length=p:=(x2.μ _ hz.1).trans hz.2.symm
 have hlt:M1.length<w.n:=Nat.lt_of_lt_of_le hz.1 x2.n
 have stp:∀st:O2 own xs M,_:=fun st=>jk w M x12 S.rs st i
 rw[S.heap] at stp
 by_cases hil:i<xs.length
 ·rw[List.drop_eq_getElem_cons hil] at hc
  obtain⟨st,hc⟩:=hc
  obtain⟨j1,j2⟩:=(stp st).1 xs[i] (List.getElem?_eq_getElem hil)
  refine .inr ⟨j1,fun x H' hy=>?_⟩
  obtain⟨w3,rfl,x3,R3,rd3⟩:=j2 x H' hy
  refine⟨w3,σE,M,xs[i],_,⟨rfl,S.ext.trans x3,R3,S.env.ext x3⟩,rd3,hc,fun σ2 σE2 env2 q2=>?_⟩
  refine⟨w3,σE2,M,_,⟨rfl,S.ext.trans x3,R3,env2⟩,q2,fun b w4 M4 x4 R4 q4=>?_⟩
  cases b with
  | true=>
   rw[if_pos rfl] at q4 ⊢
   refine Y7 ⟨rfl,(S.ext.trans x3).trans x4,R4,env2.ext x4⟩ q4 fun y w5 dy M5 x5 R5 rd5 q5=>?_
   obtain⟨acc,g1,g2,g3⟩:=q5
   obtain⟨hn,vs,z1,z2⟩:=R5.list g1
   have x35:Ext w w5:=(x3.trans x4).trans x5
   have hp5:w5.μ M1.length=p:=(x35.μ _ hlt).trans hp'
   obtain⟨y1,y2⟩:=We R5 hn z1 (z2.append (RDs.cons rd5 (RDs.nil w5)))
   rw[hp5] at z1 y1 y2
   refine⟨vs,z1,by rw[z2.length];exact g2,xs.length - (i+1),by omega,w5.alloc p (.lst (vs++[y])),σE2,_,⟨rfl,(S.ext.trans x35).trans y1,y2,(env2.ext (x4.trans x5)).ext y1⟩,(x2.trans x35).trans y1,hil,rfl,g3⟩
  | false=>
   rw[if_neg Bool.false_ne_true] at q4 ⊢
   exact⟨xs.length - (i+1),by omega,w4,σE2,M4,⟨rfl,(S.ext.trans x3).trans x4,R4,env2.ext x4⟩,(x2.trans x3).trans x4,hil,rfl,q4⟩
 ·rw[List.drop_eq_nil_of_le (by omega)] at hc
  obtain⟨st,hq⟩:=hc
  refine .inl ⟨(stp st).2 (by omega),?_⟩
  have:=a (.ref p) w (.ref M1.length) M x12 S.rs (Zh.mpr ⟨hlt,by rw[hp']⟩) ⟨rfl,hq⟩
  rw[S.heap] at this
  exact this
end
def Zk7(c:Cfg)(e:E):Prop:=∀(k:Ck) (Z:DX) (w0:Vw) (X:Cx) (ex:Expr),Good c k Z w0 X→chkE k e ex=true→PE X ex (tF w0 (te c Z e))∧(noIf e=true→PT X ex (tFT w0 (ttD (te c Z e))))
def Zq2(c:Cfg)(es:Es):Prop:=∀(k:Ck) (Z:DX) (w0:Vw) (X:Cx) (ls:List Expr),Good c k Z w0 X→Wl k es ls=true→PA X ls (tFA w0 (tes c Z es))∧
 ∀(b:Bool) (pos:Pos),PE X (.BoolOp (if b then .And else .Or) ls pos) (tF w0 (tbop c Z b es))∧(Ew es=true→PW X (.BoolOp (if b then .And else .Or) ls pos) (tFT w0 (ttD (tbop c Z b es))))
def Zl6(c:Cfg)(eo:Eo):Prop:=(∀(k:Ck) (Z:DX) (w0:Vw) (X:Cx) (lo:Option Expr),Good c k Z w0 X→chkO k eo lo=true→PO X lo (tFO w0 (teo c Z eo)))∧
 ∀(k:Ck) (Z:DX) (w0:Vw) (X:Cx) (ls:List Expr),Good c k Z w0 X→chkC k eo ls=true→(∃x,ls=[x]∧PT X x (tFT w0 (tcd c Z eo)))∨(ls=[]∧eo= .no)
def Zy8(c:Cfg)(it:It):Prop:=∀(k:Ck) (Z:DX) (w0:Vw) (X:Cx) (tg ex:Expr),Good c k Z w0 X→Zb9 k it ex=true→itTg it tg=true→PI X tg ex (iF w0 (tit c Z it))
section
variable{c:Cfg}{k:Ck}{Z:DX}{w0:Vw}{X:Cx}
theorem Qz{d:D}{v:V}{σ:L2.St}{H:Hp}{Q:VK}(hv:∀w:Vw,w.K=w0.K→RD w d v)(h:tF w0 (fun _ M Q=>Q d M) σ H Q):tC v σ H Q:=by
 obtain⟨w,σD,M,QD,S,g,a⟩:=h
 have:=a v w d M (Ext.refl w) S.rs (hv w S.K) g
 rw[S.heap] at this
 exact this
theorem both{f:DE}{ex:Expr}{b:Bool}(G:Good c k Z w0 X)(h:PE X ex (tF w0 f))(he:∀whole,isTrue ex X.env whole=(do let v ←whole;standAt ex.pos;holding [v] (truthy v))):
  PE X ex (tF w0 f)∧(b=true→PT X ex (tFT w0 (ttD f))):=⟨h,fun _=>Y63 G h he⟩
theorem C3{f:Nat}{es:Es}{x:Str}{np pos:Pos}{ls:List Expr}(G:Good c k Z w0 X)(hc:k.calm=true)(hf:k.FN[f]?=some x)(hg:k.glob x=true)(hs:Wl k es ls=true)(ih:PA X ls (tFA w0 (tes c Z es))):
  PE X (.Call (.Name x np) ls [] pos) (tF w0 (te c Z (.call f es))):=by
 obtain⟨g1,g2,g3⟩:=G.gl hg
 obtain⟨E,ps,xk⟩:=G.exc
 cases hsp:c.Γ[f]? with
 | none=>
  have h1:=(List.getElem?_eq_some_iff.mp hf).1
  have h2:=List.getElem?_eq_none_iff.mp hsp
  rw[G.flen] at h1
  omega
 | some sp=>
  obtain⟨kk,fa,fd,pr,ds,dvs,dD,sp0,F,hr,hm,hk,hb,hd,hD,hsp0⟩:=G.fns hc f x sp hf hsp
  have key:∀σ H Q,tF w0 (te c Z (.call f es)) σ H Q→tFA w0 (tes c Z es) σ H fun vs H1=>spF X.K sp0 (vs++dvs) H1 Q E:=by
   rintro σ H Q ⟨w,σD,M,QD,S,g,a⟩
   refine⟨w,σD,M,_,S,g,fun vs w' ds' M' x' r' rd' q'=>?_⟩
   have q':sp ds' M' QD Z:=by
    have:=q'
    simp only[hsp] at this
    exact this
   have hKw:w'.K=X.K:=by rw[x'.K,S.K,G.eK]
   exact⟨w',ds'++dD,M',QD,Z,hKw,rfl,r',rd'.append (hD w' hKw),hsp0 _ _ _ _ q',a.ext x',fun cls dd H' hx=>xk cls dd H' (Z32 (S.ext.trans x') hx)⟩
  cases ls with
  | nil=>
   refine PE.imp (Zc8 F hr g1 hm hk hb hd ps g2) fun σ H Q h=>?_
   have h2:=key σ H Q h
   obtain⟨w,σD,M,QD,S,g,a⟩:=h2
   cases es with
   | nil=>
    have:=a [] w [] M (Ext.refl w) S.rs (RDs.nil w) g
    rw[S.heap] at this
    exact this
   | cons e r=>exact absurd hs Bool.false_ne_true
  | cons l ls=>
   cases es with
   | nil=>exact absurd hs Bool.false_ne_true
   | cons e r=>
    change (_&&_)=true at hs
    simp only[Bool.and_eq_true] at hs
    exact PE.imp (Zt6 F hr g1 hm hk hb hd ps ih g2 (Zs hs.1.2) (Rf (Wc r ls hs.2))) key
theorem Z14{i:Nat}{x:Str}{pos:Pos}(G:Good c k Z w0 X)(h1:k.N[i]?=some x)(h2:k.vis x=true):PE X (.Name x pos) (tF w0 (te c Z (.var i))):=by
 obtain⟨v1,v2,v3⟩:=G.vis h2
 refine PE.imp (Zl2 (i:=i) (by rw[G.N];exact h1) v1 v2 v3) fun σ H Q zz84=>?_
 obtain⟨w,σD,M,QD,S,g,a⟩:=zz84
 unfold te at g
 split at g
 ·rename_i d e
  obtain⟨v,q1,q2⟩:=S.env.2 i d e
  have:=a v w d M (Ext.refl w) S.rs q2 g
  rw[S.heap] at this
  exact⟨v,q1,this⟩
 ·exact g.elim
theorem Z07{g:Nat}{x:Str}{pos:Pos}(G:Good c k Z w0 X)(h1:k.GN[g]?=some x)(h2:k.glob x=true):PE X (.Name x pos) (tF w0 (te c Z (.glb g))):=by
 obtain⟨g1,g2,g3⟩:=G.gl h2
 cases hd:c.G[g]? with
 | none=>
  refine PE.imp (t:=fun _ _ _=>False) (fun _ _ _ _ _ _ h=>h.elim) fun σ H Q zz85=>?_
  obtain⟨w,σD,M,QD,S,q,a⟩:=zz85
  unfold te at q
  rw[hd] at q
  exact q
 | some d=>
  obtain⟨v,u,q1,q2,q3⟩:=G.glb g x d h1 hd
  refine PE.imp (Zm1 g1 q1 q2 g2) fun σ H Q h=>Qz (d:=d) (fun w hw=>q3 w (by rw[hw,G.eK])) ?_
  obtain⟨w,σD,M,QD,S,q,a⟩:=h
  unfold te at q
  rw[hd] at q
  exact⟨w,σD,M,QD,S,q,a⟩
theorem Y73{es:Es}{l:Expr}{ls:List Expr}{pos:Pos}(hs:Wl k es (l::ls)=true):starEach (l::ls) X.env=(false,eval l X.env)::starEach ls X.env∧(backTo pos (starEach ls X.env)).any (·.1)=false:=by
 cases es with
 | nil=>exact absurd hs Bool.false_ne_true
 | cons e r=>
  change (_&&_)=true at hs
  simp only[Bool.and_eq_true] at hs
  exact⟨Zs hs.1.2,Rf (Wc r ls hs.2)⟩
theorem Za0{b:Bf}{es:Es}{x:Str}{np pos:Pos}{l:Expr}{ls:List Expr}(G:Good c k Z w0 X)(hc:k.calm=true∨Vx b=true)(hx:x=(bfOf b).1)(hg:k.glob x=true)(hB:x∈k.BN)(hs:Wl k es (l::ls)=true)(ih:PA X (l::ls) (tFA w0 (tes c Z es))):
  PE X (.Call (.Name x np) (l::ls) [] pos) (tF w0 (te c Z (.bf b es))):=by
 obtain⟨g1,g2,g3⟩:=G.gl hg
 have hm:=G.blt x hB
 have hb:bootBuiltins x=some (bfOf b).2:=by rw[hx];exact Zp8 b
 have snd:=Zd4 (w0:=w0) G.eK G.units b (hc.imp G.calm id)
 have st:starEach (l::ls) X.env=(false,eval l X.env)::starEach ls X.env∧(backTo pos (starEach ls X.env)).any (·.1)=false:=by
  cases es with
  | nil=>exact absurd hs Bool.false_ne_true
  | cons e r=>
   change (_&&_)=true at hs
   simp only[Bool.and_eq_true] at hs
   exact⟨Zs hs.1.2,Rf (Wc r ls hs.2)⟩
 have key:∀σ H Q,tF w0 (te c Z (.bf b es)) σ H Q→tCB (rC w0 (bfD w0.K b)) (tFA w0 (tes c Z es)) σ H Q:=by
  rintro σ H Q ⟨w,σD,M,QD,S,g,a⟩
  refine⟨w,σD,M,_,S,g,fun vs w' ds M' x' r' rd' q'=>?_⟩
  rw[←G.wK] at q'
  exact⟨w',M',ds,QD,rfl,by rw[x'.K,S.K],r',rd',q',a.ext x'⟩
 cases hv:(bfOf b).2 with
 | builtin id=>
  rw[hv] at hb snd
  exact PE.imp (Pv snd g1 hm hb ih g3 g2 st.1 st.2) key
 | type T=>
  rw[hv] at hb snd
  exact PE.imp (Je snd g1 hm hb ih g3 g2 st.1 st.2) key
 | _=>cases b<;>cases hv
theorem Ze9{m:Mt}{o:E}{es:Es}{l:Expr}{ap cp:Pos}{ls:List Expr}(G:Good c k Z w0 X)(hb:Z77 l=true)(hl:(ap.endLine==cp.line)=true)(hn:ls.length<30)(hs:Wl k es ls=true)(ho:PE X l (tF w0 (te c Z o)))(ih:PA X ls (tFA w0 (tes c Z es))):
  PE X (.Call (.Attribute l (mtN m) ap) ls [] cp) (tF w0 (te c Z (.mt m o es))):=by
 have snd:=Zf3 (w0:=w0) G.eK G.units m
 cases ls with
 | nil=>
  refine PE.imp (Y21 (Y13 m) (Br m) (Y12 m) snd ho (Nn hb) hl) fun σ H Q zz86=>?_
  obtain⟨w,σD,M,QD,S,g,a⟩:=zz86
  refine Y7 S g fun x w1 dx M1 x1 r1 rx q1=>?_
  have ty:=Zk2 r1 rx q1.1
  rw[x1.K,S.K,←G.eK] at ty
  refine⟨ty,?_⟩
  cases es with
  | nil=>exact⟨w1,M1,dx,[],QD,rfl,by rw[x1.K,S.K],r1,rx,RDs.nil w1,q1.2,a.ext x1⟩
  | cons e r=>exact absurd hs Bool.false_ne_true
 | cons l' ls=>
  cases es with
  | nil=>exact absurd hs Bool.false_ne_true
  | cons e r=>
   have hs':=hs
   change (_&&_)=true at hs'
   simp only[Bool.and_eq_true] at hs'
   have few:((backTo cp (starEach (l'::ls) X.env)).all (fun x=> !x.1)&&(backToKw cp (keywordEach [] X.env)).all (fun x=>x.1.isSome)
     &&decide ((l'::ls).length+([]:List Keyword).length+(if ([]:List Keyword).isEmpty then 0 else 1)<30))=true:=by
    rw[Zg1 (Wc _ _ hs)]
    show(true&&true&&decide ((l'::ls).length+0+0<30))=true
    simpa using hn
   refine PE.imp (Y62 (Y13 m) (Br m) (Y12 m) snd ho ih (Nn hb) few hl (Zs hs'.1.2) (Rf (Wc r ls hs'.2))) fun σ H Q zz87=>?_
   obtain⟨w,σD,M,QD,S,g,a⟩:=zz87
   refine Y7 S g fun x w1 dx M1 x1 r1 rx q1=>?_
   have ty:=Zk2 r1 rx q1.1
   rw[x1.K,S.K,←G.eK] at ty
   refine⟨ty,w1,σD,M1,_,S.next x1 r1,q1.2,fun vs w2 ds M2 x2 r2 rd2 q2=>?_⟩
   exact⟨w2,M2,dx,ds,QD,rfl,by rw[x2.K,x1.K,S.K],r2,rx.ext x2,rd2,q2,a.ext (x1.trans x2)⟩
theorem Zb7{a:E}{lo hi:Eo}{l:Expr}{x y:Option Expr}{p2 pos:Pos}(G:Good c k Z w0 X)(ha:PE X l (tF w0 (te c Z a)))(h1:PO X x (tFO w0 (teo c Z lo)))(h2:PO X y (tFO w0 (teo c Z hi))):
  PE X (.Subscript l (.Slice x y none p2) pos) (tF w0 (te c Z (.sl a lo hi))):=by
 refine PE.imp (Zg4 (Zg9 (w0:=w0) G.eK) ha h1 h2) fun σ H Q zz88=>?_
 obtain⟨w,σD,M,QD,S,g,aq⟩:=zz88
 refine Y7 S g fun x w1 dx M1 x1 r1 rx q1=>?_
 refine⟨w1,σD,M1,_,S.next x1 r1,q1,fun l w2 M2 x2 r2 q2=>?_⟩
 refine⟨w2,σD,M2,_,(S.next x1 r1).next x2 r2,q2,fun h w3 M3 x3 r3 q3=>?_⟩
 exact⟨w3,M3,dx,QD,rfl,by rw[x3.K,x2.K,x1.K,S.K],r3,rx.ext (x2.trans x3),q3,aq.ext ((x1.trans x2).trans x3)⟩
theorem Zi7{z:Expr}(h:isM1 z=true):∃y p q,z= .UnaryOp .USub (.Constant (.int 1) y p) q:=by
 unfold isM1 at h
 split at h
 ·rename_i j y p q
  have:j=1:=by simpa using h
  subst this
  exact⟨y,p,q,rfl⟩
 ·cases h
theorem Z01{a:E}{l z:Expr}{p2 pos:Pos}(G:Good c k Z w0 X)(ha:PE X l (tF w0 (te c Z a)))(hz:isM1 z=true):PE X (.Subscript l (.Slice none none (some z) p2) pos) (tF w0 (te c Z (.rev a))):=by
 obtain⟨y,p,q,rfl⟩:=Zi7 hz
 refine PE.imp (Zy5 ha (Z34 (Y78 Zz9 Zj4))) fun σ H Q zz89=>?_
 obtain⟨w,σD,M,QD,S,g,aq⟩:=zz89
 refine Y7 S g fun x w1 dx M1 x1 r1 rx q1=>?_
 split at q1
 ·obtain⟨xs,z1,z2⟩:=q1
  obtain⟨_,rfl⟩:=Zh.mp rx
  obtain⟨_,vs,y1,y2,_⟩:=r1.listL z1
  have hK:w1.K=X.K:=by rw[x1.K,S.K,G.eK]
  rw[hK] at y1
  refine⟨1,rfl,-1,rfl,rfl,_,vs,rfl,y1,fun p hp=>?_⟩
  obtain⟨t1,t2,t3⟩:=Xi r1 hp y2.reverse
  exact aq _ _ _ _ (x1.trans t1) t2 t3 z2
 ·exact q1.elim
theorem Z52{a b:E}{l r:Expr}{pos:Pos}(G:Good c k Z w0 X)(ha:PE X l (tF w0 (te c Z a)))(hb:PE X r (tF w0 (te c Z b))):PE X (.Dict [some l] [r] pos) (tF w0 (te c Z (.dct a b))):=by
 refine PE.imp (Z70 (O5 ha hb Z29) rfl rfl (by simp) (by simp)) fun σ H Q zz90=>?_
 obtain⟨w,σD,M,QD,S,g,aq⟩:=zz90
 intro p hp
 rw[←S.heap] at hp
 obtain⟨y1,y2,y3⟩:=Pz (xs:=[]) (vs:=[]) S.rs hp (by unfold RKV;rfl)
 have hup:upd H p (.dK [])=(w.push p (.dK [])).H:=by rw[←S.heap];rfl
 have eμ:(w.push p (.dK [])).μ M.length=p:=by
  show(if M.length=w.n then p else w.μ M.length)=p
  rw[if_pos S.rs.len.symm]
 have ln:M.length< (w.push p (.dK [])).n:=by show M.length<w.n+1;rw[S.rs.len];omega
 rw[hup]
 refine Y7 (S.next y1 y2) g fun x w1 dx M1 x1 r1 rx q1=>?_
 refine Y7 ((S.next y1 y2).next x1 r1) q1 fun y w2 dy M2 x2 r2 ry q2=>?_
 obtain⟨kk,e1,e2,e3⟩:=q2
 obtain⟨hn,vs,u1,u2⟩:=r2.dict e2
 rw[(x1.trans x2).μ _ ln,eμ] at u1
 have ev:vs=[]:=by have:=u2.length;exact List.length_eq_zero_iff.mp (by simpa using this)
 subst ev
 cases Vu e1 (rx.ext x2)
 refine⟨u1,[(kk,y)],rfl,by simp,?_⟩
 have u1':w2.H (w2.μ M.length)=some (.dK []):=by rw[(x1.trans x2).μ _ ln,eμ];exact u1
 obtain⟨t1,t2⟩:=Vf (vs:=[(kk,y)]) (xs:=[(kk,dy)]) r2 hn u1' (by
  have:=(show RKV w2 [] [] by unfold RKV;rfl).put (k:=kk) ry
  exact this)
 have rr:RD (w2.alloc (w2.μ M.length) (.dK [(kk,y)])) (.ref M.length) (.ref p):=(y3.ext (x1.trans x2)).ext t1
 have:=aq _ _ _ _ (((y1.trans x1).trans x2).trans t1) t2 rr e3
 have hf:(w2.alloc (w2.μ M.length) (.dK [(kk,y)])).H=upd w2.H p (.dK (Rs [] [(kk,y)])):=by
  show upd w2.H (w2.μ M.length) (.dK [(kk,y)])=_
  rw[(x1.trans x2).μ _ ln,eμ]
  rfl
 rw[←hf]
 exact this
theorem Cs{a b d e:E}{l r l2 r2:Expr}{pos:Pos}(G:Good c k Z w0 X)(ha:PE X l (tF w0 (te c Z a)))(hb:PE X r (tF w0 (te c Z b)))(hd:PE X l2 (tF w0 (te c Z d)))(he:PE X r2 (tF w0 (te c Z e))):PE X (.Dict [some l,some l2] [r,r2] pos) (tF w0 (te c Z (.dct2 a b d e))):=by
 refine PE.imp (Z70 (O5 ha hb (O5 hd he Z29)) rfl rfl (by simp) (by simp)) fun σ H Q zz91=>?_
 obtain⟨w,σD,M,QD,S,g,aq⟩:=zz91
 intro p hp
 rw[←S.heap] at hp
 obtain⟨y1,y2,y3⟩:=Pz (xs:=[]) (vs:=[]) S.rs hp (by unfold RKV;rfl)
 have hup:upd H p (.dK [])=(w.push p (.dK [])).H:=by rw[←S.heap];rfl
 have eμ:(w.push p (.dK [])).μ M.length=p:=by
  show(if M.length=w.n then p else w.μ M.length)=p
  rw[if_pos S.rs.len.symm]
 have ln:M.length< (w.push p (.dK [])).n:=by show M.length<w.n+1;rw[S.rs.len];omega
 rw[hup]
 have S0:=S.next y1 y2
 refine Y7 S0 g fun x w1 dx M1 x1 r1 rx q1=>?_
 have S1:=S0.next x1 r1
 refine Y7 S1 q1 fun y w2 dy M2 x2 r2 ry q2=>?_
 have S2:=S1.next x2 r2
 refine Y7 S2 q2 fun z w3 dz M3 x3 r3 rz q3=>?_
 have S3:=S2.next x3 r3
 refine Y7 S3 q3 fun u w4 du M4 x4 r4 ru q4=>?_
 obtain⟨kk,k2,e1,e2,e3,e4⟩:=q4
 have xx:=((x1.trans x2).trans x3).trans x4
 obtain⟨hn,vs,u1,u2⟩:=r4.dict e3
 rw[xx.μ _ ln,eμ] at u1
 have ev:vs=[]:=by have:=u2.length;exact List.length_eq_zero_iff.mp (by simpa using this)
 subst ev
 cases Vu e1 (rx.ext ((x2.trans x3).trans x4))
 cases Vu e2 (rz.ext x4)
 refine⟨u1,[(kk,y),(k2,u)],rfl,by simp,?_⟩
 have u1':w4.H (w4.μ M.length)=some (.dK []):=by rw[xx.μ _ ln,eμ];exact u1
 have rk:RKV w4 (putD (putD [] kk dy) k2 du) (putK (putK [] kk y) k2 u):=((show RKV w4 [] [] by unfold RKV;rfl).put (k:=kk) (ry.ext (x3.trans x4))).put (k:=k2) ru
 obtain⟨t1,t2⟩:=Vf (vs:=putK (putK [] kk y) k2 u) (xs:=putD [(kk,dy)] k2 du) r4 hn u1' rk
 have rr:RD (w4.alloc (w4.μ M.length) (.dK (putK (putK [] kk y) k2 u))) (.ref M.length) (.ref p):=(y3.ext xx).ext t1
 have:=aq _ _ _ _ ((y1.trans xx).trans t1) t2 rr e4
 have hf:(w4.alloc (w4.μ M.length) (.dK (putK (putK [] kk y) k2 u))).H=upd w4.H p (.dK (Rs [] [(kk,y),(k2,u)])):=by
  show upd w4.H (w4.μ M.length) (.dK (putK (putK [] kk y) k2 u))=_
  rw[xx.μ _ ln,eμ]
  rfl
 rw[←hf]
 exact this
theorem Q6{ms:List Int}(h1:ms.Nodup)(h2:ms.Pairwise (·≤·)):ms.Pairwise (· < ·):=by
 induction ms with
 | nil=>exact .nil
 | cons x r ih=>
  rw[List.nodup_cons] at h1
  rw[List.pairwise_cons] at h2
  refine .cons (fun y hy=>?_) (ih h1.2 h2.2)
  have:=h2.1 y hy
  have:x≠y:=fun z=>h1.1 (z ▸ hy)
  omega
theorem Ek{b:Bool}{a:E}{x y:Str}{p1 p2 q1 q2:Pos}{l:Expr}(G:Good c k Z w0 X)(hc:k.calm=true)(hx:x=(if b then "sorted" else "len":Str))(hy:y=("set":Str))(hg:k.glob x=true)(hg':k.glob y=true)(hB:x∈k.BN)(hB':y∈k.BN)(hl:Td l=true)(ih:PE X l (tF w0 (te c Z a))):
  PE X (.Call (.Name x p1) [.Call (.Name y p2) [l] [] q2] [] q1) (tF w0 (te c Z (.setf b a))):=by
 obtain⟨g1,g2,g3⟩:=G.gl hg
 obtain⟨g1',g2',g3'⟩:=G.gl hg'
 have hset:=Je (p:=p2) (pos:=q2) (Z88 (X:=X) (G.calm hc)) g1' (G.blt _ hB') (by rw[hy];exact Zf8) (V7 ih Rr (Zs hl)) g3' g2' (Zs hl) rfl
 have key:∀(w1:Vw) (M1:Z2) (n:Nat) (ks:List Key) (R:List V→Hp→VK→Prop) (Q:VK),RS w1 M1→w1.K=X.K→Z7 M1 n=some (ks.map kD)→ks.length+1<scanBound→n<w1.n→
   (∀p ks',w1.H p=none→ks'.Nodup→ks'.length≤ks.length→(∀k,k∈ks'↔k∈ks)→R [V.ref p] (w1.alloc p (.ext (Ws X.prog X.w p ks'))).H Q)→∃(a:Addr) (ks:List Key),[V.ref (w1.μ n)]=[V.ref a]∧SqL X.K w1.H a (ks.map kV)∧ks.length+1<scanBound∧∀p ks',w1.H p=none→ks'.Nodup→ks'.length≤ks.length→(∀k,k∈ks'↔k∈ks)→R [V.ref p] (upd w1.H p (.ext (Ws X.prog X.w p ks'))) Q:=by
  intro w1 M1 n ks R Q r1 hK e1 hz hn h
  obtain⟨_,vs,z1,z2,_⟩:=r1.listL e1
  rw[hK] at z1
  rw[E5 z2] at z1
  exact⟨_,ks,rfl,z1,hz,h⟩
 cases b with
 | true=>
  refine PE.imp (Pv (J0 (X:=X) (G.calm hc)) g1 (G.blt _ hB) (by rw[hx];exact Qe) (V7 hset Rr rfl) g3 g2 rfl rfl) fun σ H Q zz92=>?_
  obtain⟨w,σD,M,QD,S,g,aq⟩:=zz92
  refine Y7 S g fun x w1 dx M1 x1 r1 rx q1=>?_
  obtain⟨n,rfl,q1⟩:=Ys q1
  obtain⟨hn,rfl⟩:=Zh.mp rx
  obtain⟨ns,e1,hz,q⟩:=q1
  have hK:w1.K=X.K:=by rw[x1.K,S.K,G.eK]
  refine key w1 M1 n (ns.map Sum.inl) (Zl7 X.prog X.w) Q r1 hK (by rw[e1,List.map_map];rfl) (by rw[List.length_map];show ns.length+1<4096;omega) hn fun p ks' hp nd hlk hm=>?_
  have hin:∃ns':List Int,ks'=ns'.map Sum.inl:=by
   refine⟨ks'.map (fun k=>match k with | .inl i=>i | .inr _=>0),?_⟩
   rw[List.map_map]
   have:∀k∈ks',(Sum.inl ∘ fun k:Key=>match k with | .inl i=>i | .inr _=>(0:Int)) k=k:=by
    intro k hk
    obtain⟨i,_,rfl⟩:=List.mem_map.mp ((hm k).mp hk)
    rfl
   rw[List.map_congr_left this,List.map_id']
  obtain⟨ns',rfl⟩:=hin
  have nd':ns'.Nodup:=List.Pairwise.of_map Sum.inl (fun a b h z=>h (by rw[z])) nd
  have hm':∀i,i∈ns'↔i∈ns:=fun i=>by
   have:=hm (Sum.inl i)
   simpa using this
  have ln:ns'.length<64:=by
   rw[List.length_map,List.length_map] at hlk
   omega
  have ra:=r1.alloc (o:= .ext (Ws X.prog X.w p (ns'.map Sum.inl))) hp
  refine⟨p,ns',rfl,Zw,ln,fun l ms hl pm sm=>?_⟩
  obtain⟨y1,y2,y3⟩:=Xi (w:=w1.alloc p (.ext (Ws X.prog X.w p (ns'.map Sum.inl)))) ra hl (Sx ms)
  exact aq _ _ _ _ ((x1.trans (Vd hp)).trans y1) y2 y3 (q ms (Q6 (pm.nodup_iff.mpr nd') sm) fun i=>(pm.mem_iff.trans (hm' i)))
 | false=>
  refine PE.imp (Pv (Z00 (X:=X)) g1 (G.blt _ hB) (by rw[hx];exact PySem.boot_len) (V7 hset Rr rfl) g3 g2 rfl rfl) fun σ H Q zz93=>?_
  obtain⟨w,σD,M,QD,S,g,aq⟩:=zz93
  refine Y7 S g fun x w1 dx M1 x1 r1 rx q1=>?_
  obtain⟨n,rfl,q1⟩:=Ys q1
  obtain⟨hn,rfl⟩:=Zh.mp rx
  obtain⟨ks,e1,hz,q⟩:=q1
  have hK:w1.K=X.K:=by rw[x1.K,S.K,G.eK]
  refine key w1 M1 n ks (Zx6 X.prog X.w) Q r1 hK e1 hz hn fun p ks' hp nd hlk hm=>?_
  have ra:=r1.alloc (o:= .ext (Ws X.prog X.w p ks')) hp
  exact⟨p,ks',rfl,Zw,aq _ _ _ _ (x1.trans (Vd hp)) ra (Ze.mpr rfl) (q ks' nd hm)⟩
theorem Zg3{a b:E}{l r:Expr}{pos:Pos}(G:Good c k Z w0 X)(hn:Gp r=true)(ha:PE X l (tF w0 (te c Z a)))(hb:PE X r (tF w0 (te c Z b))):PE X (.Subscript l r pos) (tF w0 (te c Z (.ix a b))):=by
 have pl:Z53 r:=by
  intro o i
  cases r<;>first | rfl | cases hn
 refine PE.imp (Y76 (Zf2 (w0:=w0) G.eK G.units) ha hb pl) fun σ H Q zz94=>?_
 obtain⟨w,σD,M,QD,S,g,aq⟩:=zz94
 refine Y7 S g fun x w1 dx M1 x1 r1 rx q1=>?_
 refine Y7 (S.next x1 r1) q1 fun y w2 dy M2 x2 r2 ry q2=>?_
 exact⟨w2,M2,dx,dy,_,rfl,by rw[x2.K,x1.K,S.K],r2,rx.ext x2,ry,q2,fun d v hq hr=>aq v w2 d M2 (x1.trans x2) r2 hr hq⟩
theorem Pm{N':List Str}{js:List (Option Nat)}{tg:List Nat}{it:It}{cd:Eo}{e:E}{el t iter:Expr}{ifs:List Expr}{scope:Scope}{pos:Pos}(G:Good c k Z w0 X)(hc:k.calm=true)(ho:Ti k.sc k.N N' js scope=true)(hns:C0 iter=true)(hn:N'.Nodup)
  (hi:PI X t iter (iF w0 (tit c Z it))) (ht:Pg {k with N:=N',sc:=Wu scope k.sc,cells:=false,own:=G8 scope,tries:=false,raises:=[]} tg t=true) (hd:chkC {k with N:=N',sc:=Wu scope k.sc,cells:=false,own:=G8 scope,tries:=false,raises:=[]} cd ifs=true) (he:chkE {k with N:=N',sc:=Wu scope k.sc,cells:=false,own:=G8 scope,tries:=false,raises:=[]} e el=true) (ihe:Zk7 c e) (ihd:Zl6 c cd):
  PE X (.ListComp el [⟨t,iter,ifs,0⟩] scope pos) (tF w0 (te c Z (.comp N' js tg it cd e)))∧
  ∀(i:Nat) (x:Str) (px spos:Pos),X.N[i]?=some x→X.env.scope.names.lookup x=some .local→swapsWith (.ListComp el [⟨t,iter,ifs,0⟩] scope pos) (some (.Name x px)) spos.line X.env=pure true→
   PS X (.Assign [.Name x px] (.ListComp el [⟨t,iter,ifs,0⟩] scope pos) spos) (fun R σ H=>tF w0 (te c Z (.comp N' js tg it cd e)) σ H fun v H1=>R.nx (σ.set i (some v)) H1):=by
 have ho':Ti X.env.scope X.N N' js scope=true:=by rw[G.sc,G.N];exact ho
 have hf:∀x,foldedSetIterable iter X.env x=pure x:=by
  intro x
  cases iter<;>first | rfl | cases hns
 have hg:=fun cl C fp pins s H=>(Good.block G hc (scope:=scope) hn cl C fp pins s H).tgt tg t ht
 have hel:=fun cl C fp pins s H=>(ihe _ _ _ _ el (Good.block G hc (scope:=scope) hn cl C fp pins s H) he).1
 have key:∀σ H Q,tF w0 (te c Z (.comp N' js tg it cd e)) σ H Q→iF w0 (tit c Z it) σ H fun J H1=>∀p,H1 p=none→∃W:Nat→Nat→L2.St→Hp→Prop,(∃m,W 0 m (Tv js σ) (upd H1 p (.lst [])))∧
   ∀i m σc Hc,W i m σc Hc→(J.stop i Hc∧Q (.ref p) Hc)∨(J.go i Hc∧∀x H',J.yld i Hc x H'→gF w0 tg x σc H' fun σ2 H2=>tFT w0 (tcd c noX cd) σ2 H2 fun b H3=>if b=true then tF w0 (te c noX e) σ2 H3 fun y H4=>∃acc,H4 p=some (.lst acc)∧acc.length<sizeLine∧
    ∃m',m'<m∧W (i+1) m' σ2 (upd H4 p (.lst (acc++[y]))) else ∃m',m'<m∧W (i+1) m' σ2 H3):=by
  rintro σ H Q ⟨w,σD,M,QD,S,g,a⟩
  refine⟨w,σD,M,_,S,g,fun J w1 own xs M1 x1 R1 jk q1=>?_⟩
  exact Zd0 (S.ext.trans x1) rfl R1 (Zt5 (S.env.ext x1)) jk q1 fun v w2 d M2 x2 r2 rd2 zz95=>by obtain⟨e2,q2⟩:=zz95;exact a v w2 d M2 (x1.trans x2) r2 rd2 (by rw[e2];exact q2)
 have nocd:∀{σ:L2.St} {H:Hp} {P:Bool→Hp→Prop},cd= .no→tFT w0 (tcd c noX cd) σ H P→P true H:=by
  intro σ H P e h
  subst e
  obtain⟨w,σD,M,QD,S,g,a⟩:=h
  have:=a true w M (Ext.refl w) S.rs g
  rw[S.heap] at this
  exact this
 cases ifs with
 | nil=>
  have hcd:cd= .no:=by
   cases cd with
   | no=>rfl
   | yes e'=>exact absurd hd Bool.false_ne_true
  have key0:∀σ H Q,tF w0 (te c Z (.comp N' js tg it cd e)) σ H Q→Z26 js (iF w0 (tit c Z it)) (gF w0 tg) (tF w0 (te c noX e)) σ H Q:=by
   intro σ H Q h
   obtain⟨w,σD,M,QD,S,g,a⟩:=key σ H Q h
   refine⟨w,σD,M,QD,S,g,fun J w' own xs M' x' r' jk q p hp=>?_⟩
   obtain⟨W,w1,w2⟩:=a J w' own xs M' x' r' jk q p hp
   refine⟨W,w1,fun i m σc Hc hW=>(w2 i m σc Hc hW).imp id fun⟨z1,z2⟩=>⟨z1,fun x H' hy=>?_⟩⟩
   obtain⟨v1,v2,v3,v4,v5,v6,v7,v8,v9⟩:=z2 x H' hy
   refine⟨v1,v2,v3,v4,v5,v6,v7,v8,fun σ' σD' en q'=>?_⟩
   have:=nocd hcd (v9 σ' σD' en q')
   rw[if_pos rfl] at this
   exact this
  exact⟨PE.imp (Ze8 (G.calm hc) ho' hi hg hel hf) key0,fun i x px spos h1 h2 h3=>PS.imp (Ze0 (G.calm hc) ho' G.nd h1 h2 hi hg hel h3 hf) fun R σ H h=>key0 σ H _ h⟩
 | cons x0 ifs=>
  have hq:∀cl C fp pins s H,∃x,x0::ifs=[x]∧PT (cxC X N' scope cl C fp pins s H) x (tFT w0 (tcd c noX cd)):=fun cl C fp pins s H=>by
   rcases ihd.2 _ _ _ _ (x0::ifs) (Good.block G hc (scope:=scope) hn cl C fp pins s H) hd with h | ⟨h,_⟩
   ·exact h
   ·cases h
  have e0:ifs=[]:=by
   cases cd with
   | no=>exact absurd hd Bool.false_ne_true
   | yes e'=>
    cases ifs with
    | nil=>rfl
    | cons _ _=>exact absurd hd Bool.false_ne_true
  subst e0
  have hq':∀cl C fp pins s H,PT (cxC X N' scope cl C fp pins s H) x0 (tFT w0 (tcd c noX cd)):=fun cl C fp pins s H=>by
   obtain⟨x,h1,h2⟩:=hq cl C fp pins s H
   cases h1
   exact h2
  exact⟨PE.imp (Za3 (G.calm hc) ho' hi hg hq' hel hf) key,fun i x px spos h1 h2 h3=>PS.imp (Z95 (G.calm hc) ho' G.nd h1 h2 hi hg hq' hel h3 hf) fun R σ H h=>key σ H _ h⟩
end
section
variable{c:Cfg}{k:Ck}{Z:DX}{w0:Vw}{X:Cx}
theorem te_cmp_bl{op:Cm}{a b:E}(σD:DEnv)(M:Z2)(QD:DK)(h:te c Z (.cmp op a b) σD M QD):te c Z (.cmp op a b) σD M fun d M'=>(∃b,d= .bl b)∧QD d M':=by
 have e:(fun(d:D) (M':Z2)=>QD d M')=QD:=rfl
 unfold te at h ⊢
 have:(fun(x:D) (M1:Z2)=>te c Z b σD M1 fun y M2=>cmD M2 op x y fun r=>QD (.bl r) M2)=fun x M1=>te c Z b σD M1 fun y M2=>cmD M2 op x y fun r=>(∃b,D.bl r= .bl b)∧QD (.bl r) M2:=by
  funext x M1
  congr 1
  funext y M2
  congr 1
  funext r
  exact propext ⟨fun h=>⟨⟨r,rfl⟩,h⟩,fun h=>h.2⟩
 rw[this] at h
 exact h
theorem Zo9{a b:Expr}{rest:List Expr}{pos:Pos}{ta tb:TE}(ha:PE X a ta)(hb:PE X (.BoolOp .And (b::rest) pos) tb):PE X (.BoolOp .And (a::b::rest) pos) (fun σ H Q=>ta σ H fun x H1=>∃z,TruV X.K x H1 z∧if z=true then tb σ H1 Q else Q x H1):=by
 intro pins s σ H Q I h
 refine BoolOp_and (thn (ha pins s σ H _ I h) fun v s1 zz97=>?_)
 obtain⟨x,H1,I1,r1,q1⟩:=zz97
 refine thn (Fy pins s1 σ H1 x v (fun z H2=>if z=true then tb σ H2 Q else Q x H2) I1 r1 q1) fun z s2 zz98=>?_
 obtain⟨H2,I2,q2⟩:=zz98
 cases z with
 | true=>exact hb pins s2 σ H2 Q I2 (by rw[if_pos rfl] at q2;exact q2)
 | false=>exact⟨x,H2,I2,r1,by rw[if_neg Bool.false_ne_true] at q2;exact q2⟩
theorem Y36{a b:Expr}{rest:List Expr}{pos:Pos}{ta tb:TE}(ha:PE X a ta)(hb:PE X (.BoolOp .Or (b::rest) pos) tb):PE X (.BoolOp .Or (a::b::rest) pos) (fun σ H Q=>ta σ H fun x H1=>∃z,TruV X.K x H1 z∧if z=true then Q x H1 else tb σ H1 Q):=by
 intro pins s σ H Q I h
 refine BoolOp_or (thn (ha pins s σ H _ I h) fun v s1 zz99=>?_)
 obtain⟨x,H1,I1,r1,q1⟩:=zz99
 refine thn (Fy pins s1 σ H1 x v (fun z H2=>if z=true then Q x H2 else tb σ H2 Q) I1 r1 q1) fun z s2 zz100=>?_
 obtain⟨H2,I2,q2⟩:=zz100
 cases z with
 | false=>exact hb pins s2 σ H2 Q I2 (by rw[if_neg Bool.false_ne_true] at q2;exact q2)
 | true=>exact⟨x,H2,I2,r1,by rw[if_pos rfl] at q2;exact q2⟩
theorem Nk{M:Z2}{n:Nat}{xs:List D}{ys:List (Key×D)}(h1:Z7 M n=some xs)(h2:Zm M n=some ys):False:=by
 unfold Z7 at h1
 unfold Zm at h2
 cases h:M[n]? with
 | none=>rw[h] at h2;cases h2
 | some c=>rw[h] at h1 h2;cases c<;>simp at h1 h2
theorem Ee{M:Z2}{x:D}{k:Bool}{A:Prop}{P:Bool→Prop}:truD M x (fun b=>if b=k then A else truD M x P)=truD M x (fun b=>if b=k then A else P b):=by
 cases x with
 | str y=>
  apply propext
  show(y.length≤sizeLine∧if ((y.length:Int) !=0)=k then A else(y.length≤sizeLine∧P ((y.length:Int) !=0)))↔(y.length≤sizeLine∧if ((y.length:Int) !=0)=k then A else P ((y.length:Int) !=0))
  split<;>simp (config:={contextual:=true})
 | ref n=>
  apply propext
  have key:∀Q:Bool→Prop,truD M (.ref n) Q↔(∃xs,Z7 M n=some xs∧Q (!xs.isEmpty))∨(∃xs,Zm M n=some xs∧Q (!xs.isEmpty)):=fun Q=>Iff.rfl
  constructor
  ·intro h
   rcases(key _).mp h with⟨xs,h1,h2⟩ | ⟨xs,h1,h2⟩
   ·refine(key _).mpr (.inl ⟨xs,h1,?_⟩)
    split at h2
    ·rename_i e;rw[if_pos e];exact h2
    ·rename_i e
     rw[if_neg e]
     rcases(key _).mp h2 with⟨ys,g1,g2⟩ | ⟨ys,g1,g2⟩
     ·rw[h1] at g1;cases g1;exact g2
     ·exact(Nk h1 g1).elim
   ·refine(key _).mpr (.inr ⟨xs,h1,?_⟩)
    split at h2
    ·rename_i e;rw[if_pos e];exact h2
    ·rename_i e
     rw[if_neg e]
     rcases(key _).mp h2 with⟨ys,g1,g2⟩ | ⟨ys,g1,g2⟩
     ·exact(Nk g1 h1).elim
     ·rw[h1] at g1;cases g1;exact g2
  ·intro h
   rcases(key _).mp h with⟨xs,h1,h2⟩ | ⟨xs,h1,h2⟩
   ·refine(key _).mpr (.inl ⟨xs,h1,?_⟩)
    split at h2
    ·rename_i e;rw[if_pos e];exact h2
    ·rename_i e;rw[if_neg e];exact(key _).mpr (.inl ⟨xs,h1,h2⟩)
   ·refine(key _).mpr (.inr ⟨xs,h1,?_⟩)
    split at h2
    ·rename_i e;rw[if_pos e];exact h2
    ·rename_i e;rw[if_neg e];exact(key _).mpr (.inr ⟨xs,h1,h2⟩)
 | non=>rfl
 | bl b=>rfl
 | int i=>rfl
 | tup xs=>rfl
 | _=>rfl
theorem te_bop_tt{e e2:E}{r:Es}{σD:DEnv}{M:Z2}{QD:Bool→Z2→Prop}(h:ttD (tbop c Z true (.cons e (.cons e2 r))) σD M QD):
  ttD (te c Z e) σD M fun z M1=>if z=true then ttD (tbop c Z true (.cons e2 r)) σD M1 QD else QD false M1:=by
 have hh:(fun(x:D) (M1:Z2)=>truD M1 x fun b=>if b=true then ttD (tbop c Z true (.cons e2 r)) σD M1 QD else truD M1 x fun b=>QD b M1)=
   fun x M1=>truD M1 x fun z=>if z=true then ttD (tbop c Z true (.cons e2 r)) σD M1 QD else QD false M1:=by
  funext x M1
  rw[Ee]
  congr 1
  funext b
  cases b<;>rfl
 have h':te c Z e σD M fun(x:D) (M1:Z2)=>truD M1 x fun b=>if b=true then ttD (tbop c Z true (.cons e2 r)) σD M1 QD else truD M1 x fun b=>QD b M1:=h
 rw[hh] at h'
 exact h'
theorem te_bop_ff{e e2:E}{r:Es}{σD:DEnv}{M:Z2}{QD:Bool→Z2→Prop}(h:ttD (tbop c Z false (.cons e (.cons e2 r))) σD M QD):
  ttD (te c Z e) σD M fun z M1=>if z=true then QD true M1 else ttD (tbop c Z false (.cons e2 r)) σD M1 QD:=by
 have hh:(fun(x:D) (M1:Z2)=>truD M1 x fun b=>if b=false then ttD (tbop c Z false (.cons e2 r)) σD M1 QD else truD M1 x fun b=>QD b M1)=
   fun x M1=>truD M1 x fun z=>if z=true then QD true M1 else ttD (tbop c Z false (.cons e2 r)) σD M1 QD:=by
  funext x M1
  rw[Ee]
  congr 1
  funext b
  cases b<;>rfl
 have h':te c Z e σD M fun(x:D) (M1:Z2)=>truD M1 x fun b=>if b=false then ttD (tbop c Z false (.cons e2 r)) σD M1 QD else truD M1 x fun b=>QD b M1:=h
 rw[hh] at h'
 exact h'
end
theorem Cy{k:Ck}{b:Bool}{a:E}{ex:Expr}(h:chkE k (.setf b a) ex=true):∃x y l p1 p2 q1 q2,ex= .Call (.Name x p1) [.Call (.Name y p2) [l] [] q2] [] q1∧
  (k.calm&&x==(if b then "sorted" else "len":Str)&&y==("set":Str)&&k.glob x&&k.glob y&&k.BN.contains x&&k.BN.contains y&&Td l&&chkE k a l)=true:=by
 cases ex with
 | Call fn as kws q1=>
  cases fn with
  | Name x p1=>
   cases as with
   | nil=>exact absurd h Bool.false_ne_true
   | cons a0 as=>
   cases a0 with
   | Call fn2 as2 kws2 q2=>
    cases fn2 with
    | Name y p2=>
     cases as2 with
     | nil=>exact absurd h Bool.false_ne_true
     | cons l ls=>
     cases ls with
     | cons _ _=>exact absurd h Bool.false_ne_true
     | nil=>
     cases kws2 with
     | cons _ _=>exact absurd h Bool.false_ne_true
     | nil=>
     cases as with
     | cons _ _=>exact absurd h Bool.false_ne_true
     | nil=>
     cases kws with
     | cons _ _=>exact absurd h Bool.false_ne_true
     | nil=>exact⟨x,y,l,p1,p2,q1,q2,rfl,h⟩
    | _=>exact absurd h Bool.false_ne_true
   | _=>exact absurd h Bool.false_ne_true
  | _=>exact absurd h Bool.false_ne_true
 | _=>exact absurd h Bool.false_ne_true
theorem Z28{k:Ck}{a:E}{ex:Expr}(h:chkE k (.rev a) ex=true):∃l z p2 pos,ex= .Subscript l (.Slice none none (some z) p2) pos∧(chkE k a l&&isM1 z)=true:=by
 cases ex with
 | Subscript l r pos=>
  cases r with
  | Slice x y z p2=>
   cases x with
   | some _=>exact absurd h Bool.false_ne_true
   | none=>
   cases y with
   | some _=>exact absurd h Bool.false_ne_true
   | none=>
   cases z with
   | none=>exact absurd h Bool.false_ne_true
   | some z=>exact⟨_,_,_,_,rfl,h⟩
  | _=>exact absurd h Bool.false_ne_true
 | _=>exact absurd h Bool.false_ne_true
theorem Ca{k:Ck}{a b c d:E}{ex:Expr}(h:chkE k (.dct2 a b c d) ex=true):∃l r l2 r2 pos,ex= .Dict [some l,some l2] [r,r2] pos∧(chkE k a l&&chkE k b r&&chkE k c l2&&chkE k d r2)=true:=by
 cases ex with
 | Dict ks vs pos=>
  match ks,vs,h with
  | [some l,some l2],[r,r2],h=>exact⟨l,r,l2,r2,pos,rfl,h⟩
 | _=>exact absurd h Bool.false_ne_true
theorem Z43{k:Ck}{a b:E}{ex:Expr}(h:chkE k (.dct a b) ex=true):∃l r pos,ex= .Dict [some l] [r] pos∧(chkE k a l&&chkE k b r)=true:=by
 cases ex with
 | Dict ks vs pos=>
  cases ks with
  | nil=>exact absurd h Bool.false_ne_true
  | cons k0 ks=>
  cases k0 with
  | none=>exact absurd h Bool.false_ne_true
  | some l=>
  cases ks with
  | cons _ _=>exact absurd h Bool.false_ne_true
  | nil=>
  cases vs with
  | nil=>exact absurd h Bool.false_ne_true
  | cons r vs=>
  cases vs with
  | cons _ _=>exact absurd h Bool.false_ne_true
  | nil=>exact⟨l,r,pos,rfl,h⟩
 | _=>exact absurd h Bool.false_ne_true
theorem Z57{k:Ck}{es:Es}{ex:Expr}(h:Zb9 k (.zip es) ex=true):∃l ls p q,ex= .Call (.Name "zip" p) (l::ls) [] q∧(k.glob "zip"&&k.BN.contains "zip"&&Wl k es (l::ls))=true:=by
 cases ex with
 | Call fn as kws q=>
  cases fn with
  | Name x p=>
   cases as with
   | nil=>exact absurd h Bool.false_ne_true
   | cons l ls=>
   cases kws with
   | cons _ _=>exact absurd h Bool.false_ne_true
   | nil=>
    change (_&&_)=true at h
    simp only[Bool.and_eq_true,beq_iff_eq] at h
    obtain⟨⟨⟨rfl,h1⟩,h2⟩,h3⟩:=h
    refine⟨l,ls,p,q,rfl,?_⟩
    simp only[Bool.and_eq_true]
    exact⟨⟨h1,h2⟩,h3⟩
  | _=>exact absurd h Bool.false_ne_true
 | _=>exact absurd h Bool.false_ne_true
mutual
theorem Zk(c:Cfg):∀e:E,Zk7 c e
 | .var i,k,Z,w0,X,ex,G,h=>by
  cases ex with
  | Name x pos=>
   change (_&&_)=true at h
   simp only[Bool.and_eq_true,beq_iff_eq] at h
   exact both G (Z14 G h.1 h.2) fun _=>rfl
  | _=>exact absurd h Bool.false_ne_true
 | .int i,k,Z,w0,X,ex,G,h=>by
  cases ex with
  | Constant v j pos=>
   cases v with
   | int m=>
    change (_==_)=true at h
    simp only[beq_iff_eq] at h
    subst h
    exact both G (PE.imp Zj4 fun σ H Q q=>Qz (fun _ _=>Ze.mpr rfl) q) fun _=>rfl
   | _=>exact absurd h Bool.false_ne_true
  | _=>exact absurd h Bool.false_ne_true
 | .bl i,k,Z,w0,X,ex,G,h=>by
  cases ex with
  | Constant v j pos=>
   cases v with
   | bool m=>
    change (_==_)=true at h
    simp only[beq_iff_eq] at h
    subst h
    exact both G (PE.imp Y71 fun σ H Q q=>Qz (fun _ _=>Xs.mpr rfl) q) fun _=>rfl
   | _=>exact absurd h Bool.false_ne_true
  | _=>exact absurd h Bool.false_ne_true
 | .non,k,Z,w0,X,ex,G,h=>by
  cases ex with
  | Constant v j pos=>
   cases v with
   | none=>exact both G (PE.imp Zy7 fun σ H Q q=>Qz (fun _ _=>Zt.mpr rfl) q) fun _=>rfl
   | _=>exact absurd h Bool.false_ne_true
  | _=>exact absurd h Bool.false_ne_true
 | .str i,k,Z,w0,X,ex,G,h=>by
  cases ex with
  | Constant v j pos=>
   cases v with
   | str m=>
    change (_==_)=true at h
    simp only[beq_iff_eq] at h
    subst h
    exact both G (PE.imp Y08 fun σ H Q q=>Qz (fun _ _=>Y4.mpr rfl) q) fun _=>rfl
   | _=>exact absurd h Bool.false_ne_true
  | _=>exact absurd h Bool.false_ne_true
 | .ty t,k,Z,w0,X,ex,G,h=>by
  cases ex with
  | Name x pos=>
   change (_&&_)=true at h
   simp only[Bool.and_eq_true,beq_iff_eq,List.contains_iff_mem] at h
   obtain⟨g1,g2,g3⟩:=G.gl h.1.2
   exact both G (PE.imp (Zm8 (v:= .ty (Xd t)) g1 (G.blt x h.2) (by rw[h.1.1];exact Zo5 t) rfl g3 g2) fun σ H Q q=>Qz (fun _ _=>Zn9.mpr rfl) q) fun _=>rfl
  | _=>exact absurd h Bool.false_ne_true
 | .glb g,k,Z,w0,X,ex,G,h=>by
  cases ex with
  | Name x pos=>
   change (_&&_)=true at h
   simp only[Bool.and_eq_true,beq_iff_eq] at h
   exact both G (Z07 G h.1 h.2) fun _=>rfl
  | _=>exact absurd h Bool.false_ne_true
 | .bin op a b,k,Z,w0,X,ex,G,h=>by
  cases ex with
  | BinOp l o r pos=>
   change (_&&_)=true at h
   simp only[Bool.and_eq_true,beq_iff_eq] at h
   obtain⟨⟨rfl,h1⟩,h2⟩:=h
   exact both G (PE.imp (Y57 (Zh1 (w0:=w0) op) (Zk c a k Z w0 X l G h1).1 (Zk c b k Z w0 X r G h2).1) fun σ H Q q=>Z63 q) fun _=>rfl
  | _=>exact absurd h Bool.false_ne_true
 | .not a,k,Z,w0,X,ex,G,h=>by
  cases ex with
  | UnaryOp o l pos=>
   cases o with
   | Not=>
    have h1:chkE k a l=true:=h
    obtain⟨i1,i2⟩:=Zk c a k Z w0 X l G h1
    refine⟨PE.imp (Zw2 i1) fun σ H Q ⟨w,σD,M,QD,S,g,aq⟩=>?_,fun hn=>PT.imp (Y44 (i2 hn)) fun σ H Q ⟨w,σD,M,QD,S,g,aq⟩=>?_⟩
    ·refine Y7 S g fun x w1 dx M1 x1 r1 rx q1=>?_
     obtain⟨b,t1,t2⟩:=Tl (K:=X.K) (by rw[x1.K,S.K,G.eK]) r1 rx q1
     exact⟨b,t1,aq _ w1 _ M1 x1 r1 (Xs.mpr rfl) t2⟩
    ·exact⟨w,σD,M,fun b M1=>QD (!b) M1,S,g,fun b w' M' x' r' q'=>aq _ w' M' x' r' q'⟩
   | _=>exact absurd h Bool.false_ne_true
  | _=>exact absurd h Bool.false_ne_true
 | .cmp op a b,k,Z,w0,X,ex,G,h=>by
  cases ex with
  | Compare l os rs pos=>
   match os,rs,h with
   | [o],[r],h=>
    change (_&&_)=true at h
    simp only[Bool.and_eq_true,beq_iff_eq] at h
    obtain⟨⟨⟨rfl,h0⟩,h1⟩,h2⟩:=h
    have hm:behindInMarks (cmOf op) r=false:=by
     cases r with
     | Set es kk p=>cases op<;>first | (simp[isIn,C0] at h0;done) | (simp[behindInMarks,cmOf])
     | _=>rfl
    have ia:=(Zk c a k Z w0 X l G h1).1
    have ib:=(Zk c b k Z w0 X r G h2).1
    refine⟨PE.imp (Zp1 (Ec (w0:=w0) G.eK G.units op) ia ib hm) fun σ H Q q=>Jc q,fun _=>Zv1 (PT.imp (Zo4 (Ec (w0:=w0) G.eK G.units op) ia ib hm) fun σ H Q q=>Jc q) te_cmp_bl⟩
   | [],_,h=>exact absurd h Bool.false_ne_true
   | [_],[],h=>exact absurd h Bool.false_ne_true
   | [_],_::_::_,h=>exact absurd h Bool.false_ne_true
   | _::_::_,_,h=>exact absurd h Bool.false_ne_true
  | _=>exact absurd h Bool.false_ne_true
 | .bop b es,k,Z,w0,X,ex,G,h=>by
  cases ex with
  | BoolOp o ls pos=>
   cases b with
   | true=>
    cases o with
    | And=>
     obtain⟨i1,i2⟩:=(Wq c es k Z w0 X ls G h).2 true pos
     exact⟨i1,fun hn=>(i2 hn).pt⟩
    | Or=>exact absurd h Bool.false_ne_true
   | false=>
    cases o with
    | Or=>
     obtain⟨i1,i2⟩:=(Wq c es k Z w0 X ls G h).2 false pos
     exact⟨i1,fun hn=>(i2 hn).pt⟩
    | And=>exact absurd h Bool.false_ne_true
  | _=>cases b<;>exact absurd h Bool.false_ne_true
 | .ife t a b,k,Z,w0,X,ex,G,h=>by
  cases ex with
  | IfExp x l r pos=>
   change (_&&_)=true at h
   simp only[Bool.and_eq_true] at h
   refine⟨PE.imp (Za2 ((Zk c t k Z w0 X x G h.1.1.1).2 h.2) (Zk c a k Z w0 X l G h.1.1.2).1 (Zk c b k Z w0 X r G h.1.2).1) fun σ H Q zz103=>?_,fun hn=>by simp[noIf] at hn⟩
   obtain⟨w,σD,M,QD,S,g,aq⟩:=zz103
   refine⟨w,σD,M,fun r M1=>if r=true then te c Z a σD M1 QD else te c Z b σD M1 QD,S,g,fun r w1 M1 x1 r1 q1=>?_⟩
   cases r with
   | true=>rw[if_pos rfl] at q1 ⊢;exact Y7 (S.next x1 r1) q1 (aq.ext x1)
   | false=>rw[if_neg Bool.false_ne_true] at q1 ⊢;exact Y7 (S.next x1 r1) q1 (aq.ext x1)
  | _=>exact absurd h Bool.false_ne_true
 | .lst es,k,Z,w0,X,ex,G,h=>by
  cases ex with
  | List ls pos=>
   refine both G (PE.imp (Zz4 (Wq c es k Z w0 X ls G h).1) fun σ H Q zz104=>?_) fun _=>rfl
   obtain⟨w,σD,M,QD,S,g,aq⟩:=zz104
   refine⟨w,σD,M,_,S,g,fun vs w1 ds M1 x1 r1 rd1 q1=>⟨by rw[rd1.length];exact q1.1,fun p hp=>?_⟩⟩
   obtain⟨y1,y2,y3⟩:=Xi r1 hp rd1
   exact aq _ _ _ _ (x1.trans y1) y2 y3 q1.2
  | _=>exact absurd h Bool.false_ne_true
 | .tup es,k,Z,w0,X,ex,G,h=>by
  cases ex with
  | Tuple ls kk pos=>
   refine both G (PE.imp (Y42 (Wq c es k Z w0 X ls G h).1) fun σ H Q zz105=>?_) fun _=>rfl
   obtain⟨w,σD,M,QD,S,g,aq⟩:=zz105
   refine⟨w,σD,M,_,S,g,fun vs w1 ds M1 x1 r1 rd1 q1=>⟨by rw[rd1.length];exact q1.1,fun p hp=>?_⟩⟩
   obtain⟨y1,y2,y3⟩:=Rm r1 hp rd1
   exact aq _ _ _ _ (x1.trans y1) y2 y3 q1.2
  | _=>exact absurd h Bool.false_ne_true
 | .dict0,k,Z,w0,X,ex,G,h=>by
  cases ex with
  | Dict ks vs pos=>
   match ks,vs,h with
   | [],[],h=>
    refine both G (PE.imp Z98 fun σ H Q zz106=>?_) fun _=>rfl
    obtain⟨w,σD,M,QD,S,g,aq⟩:=zz106
    intro p hp
    rw[←S.heap] at hp
    obtain⟨y1,y2,y3⟩:=Pz (xs:=[]) (vs:=[]) S.rs hp (by unfold RKV;rfl)
    have:=aq _ _ _ _ y1 y2 y3 g
    rw[←S.heap]
    exact this
   | [],_::_,h=>exact absurd h Bool.false_ne_true
   | _::_,_,h=>exact absurd h Bool.false_ne_true
  | _=>exact absurd h Bool.false_ne_true
 | .dct2 a b d e,k,Z,w0,X,ex,G,h=>by
  obtain⟨l,r,l2,r2,pos,rfl,h2⟩:=Ca h
  simp only[Bool.and_eq_true] at h2
  exact both G (Cs G (Zk c a k Z w0 X l G h2.1.1.1).1 (Zk c b k Z w0 X r G h2.1.1.2).1 (Zk c d k Z w0 X l2 G h2.1.2).1 (Zk c e k Z w0 X r2 G h2.2).1) fun _=>rfl
 | .dct a b,k,Z,w0,X,ex,G,h=>by
  obtain⟨l,r,pos,rfl,h2⟩:=Z43 h
  rw[Bool.and_eq_true] at h2
  exact both G (Z52 G (Zk c a k Z w0 X l G h2.1).1 (Zk c b k Z w0 X r G h2.2).1) fun _=>rfl
 | .ix a b,k,Z,w0,X,ex,G,h=>by
  cases ex with
  | Subscript l r pos=>
   change (_&&_)=true at h
   simp only[Bool.and_eq_true] at h
   exact both G (Zg3 G h.1.1 (Zk c a k Z w0 X l G h.1.2).1 (Zk c b k Z w0 X r G h.2).1) fun _=>rfl
  | _=>exact absurd h Bool.false_ne_true
 | .sl a lo hi,k,Z,w0,X,ex,G,h=>by
  cases ex with
  | Subscript l r pos=>
   cases r with
   | Slice x y z p2=>
    cases z with
    | none=>
     change (_&&_)=true at h
     simp only[Bool.and_eq_true] at h
     exact both G (Zb7 G (Zk c a k Z w0 X l G h.1.1).1 ((Fv c lo).1 k Z w0 X x G h.1.2) ((Fv c hi).1 k Z w0 X y G h.2)) fun _=>rfl
    | some _=>exact absurd h Bool.false_ne_true
   | _=>exact absurd h Bool.false_ne_true
  | _=>exact absurd h Bool.false_ne_true
 | .setf b a,k,Z,w0,X,ex,G,h=>by
  obtain⟨x,y,l,p1,p2,q1,q2,rfl,hs⟩:=Cy h
  simp only[Bool.and_eq_true,beq_iff_eq,List.contains_iff_mem] at hs
  obtain⟨⟨⟨⟨⟨⟨⟨⟨h1,h2⟩,h3⟩,h4⟩,h5⟩,h6⟩,h7⟩,h8⟩,h9⟩:=hs
  exact both G (Ek G h1 h2 h3 h4 h5 h6 h7 h8 (Zk c a k Z w0 X l G h9).1) fun _=>rfl
 | .rev a,k,Z,w0,X,ex,G,h=>by
  obtain⟨l,z,p2,pos,rfl,h2⟩:=Z28 h
  rw[Bool.and_eq_true] at h2
  exact both G (Z01 G (Zk c a k Z w0 X l G h2.1).1 h2.2) fun _=>rfl
 | .call f es,k,Z,w0,X,ex,G,h=>by
  cases ex with
  | Call fn ls kws pos=>
   cases fn with
   | Name x np=>
    cases kws with
    | nil=>
     change (_&&_)=true at h
     simp only[Bool.and_eq_true,beq_iff_eq] at h
     exact both G (C3 G h.1.1.1 h.1.1.2 h.1.2 h.2 (Wq c es k Z w0 X ls G h.2).1) fun _=>rfl
    | cons _ _=>exact absurd h Bool.false_ne_true
   | _=>exact absurd h Bool.false_ne_true
  | _=>exact absurd h Bool.false_ne_true
 | .bf b es,k,Z,w0,X,ex,G,h=>by
  cases ex with
  | Call fn ls kws pos=>
   cases fn with
   | Name x np=>
    cases kws with
    | nil=>
     cases ls with
     | nil=>exact absurd h Bool.false_ne_true
     | cons l ls=>
      change (_&&_)=true at h
      simp only[Bool.and_eq_true,beq_iff_eq,Bool.or_eq_true,List.contains_iff_mem] at h
      exact both G (Za0 G h.1.1.1.1 h.1.1.1.2 h.1.1.2 h.1.2 h.2 (Wq c es k Z w0 X (l::ls) G h.2).1) fun _=>rfl
    | cons _ _=>cases ls<;>exact absurd h Bool.false_ne_true
   | _=>cases ls<;>cases kws<;>exact absurd h Bool.false_ne_true
  | _=>exact absurd h Bool.false_ne_true
 | .mt m o es,k,Z,w0,X,ex,G,h=>by
  cases ex with
  | Call fn ls kws pos=>
   cases fn with
   | Attribute l nm ap=>
    cases kws with
    | nil=>
     change (_&&_)=true at h
     simp only[Bool.and_eq_true,beq_iff_eq,decide_eq_true_eq] at h
     obtain⟨⟨⟨⟨⟨rfl,h1⟩,h2⟩,h3⟩,h4⟩,h5⟩:=h
     exact both G (Ze9 G h1 (by rw[h2];simp) h3 h5 (Zk c o k Z w0 X l G h4).1 (Wq c es k Z w0 X ls G h5).1) fun _=>rfl
    | cons _ _=>exact absurd h Bool.false_ne_true
   | _=>exact absurd h Bool.false_ne_true
  | _=>exact absurd h Bool.false_ne_true
 | .comp N' js tg it cd e,k,Z,w0,X,ex,G,h=>by
  cases ex with
  | ListComp el gens scope pos=>
   match gens,h with
   | [⟨t,iter,ifs,as⟩],h=>
    rcases as with(_ | n) | n
    ·change (_&&_)=true at h
     simp only[Bool.and_eq_true,decide_eq_true_eq] at h
     obtain⟨⟨⟨⟨⟨⟨⟨⟨h1,h2⟩,h3⟩,h4⟩,h5⟩,h6⟩,h7⟩,h8⟩,h9⟩:=h
     exact both G (Pm G h1 h2 h3 h5 (Z51 c it k Z w0 X t iter G h4 h9) h6 h7 h8 (Zk c e) (Fv c cd)).1 fun _=>rfl
    ·exact absurd h Bool.false_ne_true
    ·exact absurd h Bool.false_ne_true
   | [],h=>exact absurd h Bool.false_ne_true
   | ⟨_,_,_,as⟩::_::_,h=>rcases as with(_ | _) | _<;>exact absurd h Bool.false_ne_true
  | _=>exact absurd h Bool.false_ne_true
theorem Wq(c:Cfg):∀es:Es,Zq2 c es
 | .nil,k,Z,w0,X,ls,G,h=>by
  cases ls with
  | nil=>
   refine⟨PA.imp Rr fun σ H Q zz107=>?_,fun b pos=>⟨PE.imp (t:=fun _ _ _=>False) (fun _ _ _ _ _ _ h=>h.elim) fun σ H Q zz108=>by obtain⟨w,σD,M,QD,S,g,aq⟩:=zz108;exact g,fun _ whole pins s σ H Q I zz109=>by obtain⟨w,σD,M,QD,S,g,aq⟩:=zz109;exact g.elim⟩⟩
   obtain⟨w,σD,M,QD,S,g,aq⟩:=zz107
   have:=aq [] w [] M (Ext.refl w) S.rs (RDs.nil w) g
   rw[S.heap] at this
   exact this
  | cons l ls=>exact absurd h Bool.false_ne_true
 | .cons e r,k,Z,w0,X,ls,G,h=>by
  cases ls with
  | nil=>exact absurd h Bool.false_ne_true
  | cons l ls=>
   change (_&&_)=true at h
   simp only[Bool.and_eq_true] at h
   obtain⟨ie,it⟩:=Zk c e k Z w0 X l G h.1.1
   obtain⟨ir,ib⟩:=Wq c r k Z w0 X ls G h.2
   refine⟨PA.imp (V7 ie ir (Zs h.1.2)) fun σ H Q ⟨w,σD,M,QD,S,g,aq⟩=>?_,fun b pos=>?_⟩
   ·refine Y7 S g fun v w1 d M1 x1 r1 rd1 q1=>?_
    refine⟨w1,σD,M1,_,S.next x1 r1,q1,fun vs w2 ds M2 x2 r2 rd2 q2=>?_⟩
    exact aq _ w2 _ M2 (x1.trans x2) r2 (RDs.cons (rd1.ext x2) rd2) q2
   ·cases r with
    | nil=>
     cases ls with
     | cons _ _=>exact absurd h.2 Bool.false_ne_true
     | nil=>
      refine⟨PE.imp (Zz5 ie) fun σ H Q q=>q,fun hn=>?_⟩
      have hn':noIf e=true:=by simpa[Ew] using hn
      cases b with
      | true=>exact fun whole pins s σ H Q I q=>Zw1 (it hn') whole pins s σ H Q I q
      | false=>exact fun whole pins s σ H Q I q=>Y35 (it hn') whole pins s σ H Q I q
    | cons e2 r2=>
     cases ls with
     | nil=>exact absurd h.2 Bool.false_ne_true
     | cons l2 ls=>
      obtain⟨jb,jw⟩:=ib b pos
      constructor
      ·cases b with
       | true=>
        refine PE.imp (Zo9 ie jb) fun σ H Q zz111=>?_
        obtain⟨w,σD,M,QD,S,g,aq⟩:=zz111
        refine Y7 S g fun v w1 d M1 x1 r1 rd1 q1=>?_
        obtain⟨z,t1,t2⟩:=Tl (K:=X.K) (by rw[x1.K,S.K,G.eK]) r1 rd1 q1
        refine⟨z,t1,?_⟩
        cases z with
        | true=>rw[if_pos rfl] at t2 ⊢;exact Y7 (S.next x1 r1) t2 (aq.ext x1)
        | false=>rw[if_neg Bool.false_ne_true] at t2 ⊢;exact aq _ w1 _ M1 x1 r1 rd1 t2
       | false=>
        refine PE.imp (Y36 ie jb) fun σ H Q zz112=>?_
        obtain⟨w,σD,M,QD,S,g,aq⟩:=zz112
        refine Y7 S g fun v w1 d M1 x1 r1 rd1 q1=>?_
        obtain⟨z,t1,t2⟩:=Tl (K:=X.K) (by rw[x1.K,S.K,G.eK]) r1 rd1 q1
        refine⟨z,t1,?_⟩
        cases z with
        | false=>rw[if_pos rfl] at t2;rw[if_neg Bool.false_ne_true];exact Y7 (S.next x1 r1) t2 (aq.ext x1)
        | true=>rw[if_neg (by decide)] at t2;rw[if_pos rfl];exact aq _ w1 _ M1 x1 r1 rd1 t2
      ·intro hn
       have hn':noIf e=true∧Ew (.cons e2 r2)=true:=by
        have:(noIf e&&Ew (.cons e2 r2))=true:=hn
        simpa using this
       have jw':=jw hn'.2
       cases b with
       | true=>
        rintro whole pins s σ H Q I ⟨w,σD,M,QD,S,g,aq⟩
        refine Zx8 (it hn'.1) jw' whole pins s σ H Q I ?_
        refine⟨w,σD,M,fun z M1=>if z=true then ttD (tbop c Z true (.cons e2 r2)) σD M1 QD else QD false M1,S,?_,fun z w1 M1 x1 r1 q1=>?_⟩
        ·exact te_bop_tt g
        ·cases z with
         | true=>rw[if_pos rfl] at q1 ⊢;exact⟨w1,σD,M1,QD,S.next x1 r1,q1,fun z w2 M2 x2 r2 q2=>aq z w2 M2 (x1.trans x2) r2 q2⟩
         | false=>rw[if_neg Bool.false_ne_true] at q1 ⊢;exact aq _ w1 M1 x1 r1 q1
       | false=>
        rintro whole pins s σ H Q I ⟨w,σD,M,QD,S,g,aq⟩
        refine Y69 (it hn'.1) jw' whole pins s σ H Q I ?_
        refine⟨w,σD,M,fun z M1=>if z=true then QD true M1 else ttD (tbop c Z false (.cons e2 r2)) σD M1 QD,S,?_,fun z w1 M1 x1 r1 q1=>?_⟩
        ·exact te_bop_ff g
        ·cases z with
         | true=>rw[if_pos rfl] at q1 ⊢;exact aq _ w1 M1 x1 r1 q1
         | false=>rw[if_neg Bool.false_ne_true] at q1 ⊢;exact⟨w1,σD,M1,QD,S.next x1 r1,q1,fun z w2 M2 x2 r2 q2=>aq z w2 M2 (x1.trans x2) r2 q2⟩
theorem Fv(c:Cfg):∀eo:Eo,Zl6 c eo
 | .no=>⟨fun k Z w0 X lo G h=>by
   cases lo with
   | none=>
    rintro pins s σ H Q I ⟨w,σD,M,QD,S,g,aq⟩
    refine Zo7 pins s σ H Q I ?_
    have:=aq none w M (Ext.refl w) S.rs g
    rw[S.heap] at this
    exact this
   | some _=>exact absurd h Bool.false_ne_true,fun k Z w0 X ls G h=>by
   cases ls with
   | nil=>exact .inr ⟨rfl,rfl⟩
   | cons _ _=>exact absurd h Bool.false_ne_true⟩
 | .yes e=>⟨fun k Z w0 X lo G h=>by
   cases lo with
   | none=>exact absurd h Bool.false_ne_true
   | some x=>
    rintro pins s σ H Q I ⟨w,σD,M,QD,S,g,aq⟩
    refine Z34 (Zk c e k Z w0 X x G h).1 pins s σ H Q I ?_
    refine Y7 S g fun v w1 d M1 x1 r1 rd1 q1=>?_
    split at q1
    ·cases Ze.mp rd1
     exact⟨_,rfl,aq _ w1 M1 x1 r1 q1⟩
    ·exact q1.elim,fun k Z w0 X ls G h=>by
   match ls,h with
   | [x],h=>
    change (_&&_)=true at h
    simp only[Bool.and_eq_true] at h
    exact .inl ⟨x,rfl,(Zk c e k Z w0 X x G h.1).2 h.2⟩
   | [],h=>exact absurd h Bool.false_ne_true
   | _::_::_,h=>exact absurd h Bool.false_ne_true⟩
theorem Z51(c:Cfg):∀it:It,Zy8 c it
 | .seq e,k,Z,w0,X,tg,ex,G,h,_=>by
  refine PI.imp (Y37 (Zk c e k Z w0 X ex G h).1) fun σ H R zz113=>?_
  obtain⟨w,σD,M,QD,S,g,aq⟩:=zz113
  refine Y7 S g fun v w1 d M1 x1 r1 rd1 q1=>?_
  have hK:X.K=w1.K:=by rw[x1.K,S.K,G.eK]
  unfold itD at q1
  split at q1
  ·obtain⟨hn,rfl⟩:=Zh.mp rd1
   obtain⟨xs,z1,z2⟩:=q1
   obtain⟨_,vs,y1,y2,_⟩:=r1.listL z1
   rw[←hK] at y1
   exact .inl ⟨_,rfl,⟨vs,y1⟩,aq _ w1 _ _ M1 x1 r1 (Ze2 hK hn) z2⟩
  ·obtain⟨a,vs,rfl,y1,y2⟩:=Xe.mp rd1
   exact .inr ⟨a,rfl,⟨vs,.of y1⟩,aq _ w1 _ _ M1 x1 r1 (Z56 hK (.of y1) y2) q1⟩
  ·obtain⟨a,vs,rfl,y1,y2⟩:=Og.mp rd1
   exact .inr ⟨a,rfl,⟨vs,by rw[hK];exact y1⟩,aq _ w1 _ _ M1 x1 r1 (Z56 hK y1 y2) q1⟩
  ·exact q1.elim
 | .fro e,k,Z,w0,X,tg,ex,G,h,_=>by
  refine PI.imp (Y01 (Zk c e k Z w0 X ex G h).1) fun σ H R zz114=>?_
  obtain⟨w,σD,M,QD,S,g,aq⟩:=zz114
  refine Y7 S g fun v w1 d M1 x1 r1 rd1 q1=>?_
  split at q1
  ·obtain⟨hn,rfl⟩:=Zh.mp rd1
   obtain⟨kvs,z1,z2⟩:=q1
   obtain⟨o,vs,y1,y2⟩:=r1.cell _ _ z1
   exact⟨_,o,vs,rfl,y1,aq _ w1 _ _ M1 x1 r1 (Fu hn y1) z2⟩
  ·exact q1.elim
 | .rng1 a,k,Z,w0,X,tg,ex,G,h,_=>by
  cases ex with
  | Call fn ls kws pos=>
   cases fn with
   | Name x np=>
    match ls,kws,h with
    | [l],[],h=>
     change (_&&_)=true at h
     simp only[Bool.and_eq_true,beq_iff_eq,List.contains_iff_mem] at h
     obtain⟨⟨⟨⟨rfl,h1⟩,h2⟩,h3⟩,h4⟩:=h
     obtain⟨g1,g2,g3⟩:=G.gl h1
     refine PI.imp (Z92 g1 (G.blt _ h2) (V7 (Zk c a k Z w0 X l G h4).1 Rr (Zs h3)) (Zs h3)) fun σ H R zz115=>?_
     obtain⟨w,σD,M,QD,S,g,aq⟩:=zz115
     refine Y7 S g fun v w1 d M1 x1 r1 rd1 q1=>?_
     split at q1
     ·cases Ze.mp rd1
      exact⟨_,rfl,q1.1,q1.2.1,aq _ w1 _ _ M1 x1 r1 Z40 q1.2.2⟩
     ·exact q1.elim
    | [],_,h=>exact absurd h Bool.false_ne_true
    | [_],_::_,h=>exact absurd h Bool.false_ne_true
    | _::_::_,_,h=>exact absurd h Bool.false_ne_true
   | _=>exact absurd h Bool.false_ne_true
  | _=>exact absurd h Bool.false_ne_true
 | .rng2 a b,k,Z,w0,X,tg,ex,G,h,_=>by
  cases ex with
  | Call fn ls kws pos=>
   cases fn with
   | Name x np=>
    match ls,kws,h with
    | [l,r],[],h=>
     change (_&&_)=true at h
     simp only[Bool.and_eq_true,beq_iff_eq,List.contains_iff_mem] at h
     obtain⟨⟨⟨⟨⟨⟨rfl,h1⟩,h2⟩,h3⟩,h5⟩,h4⟩,h6⟩:=h
     obtain⟨g1,g2,g3⟩:=G.gl h1
     refine PI.imp (Z05 g1 (G.blt _ h2) (V7 (Zk c a k Z w0 X l G h4).1 (V7 (Zk c b k Z w0 X r G h6).1 Rr (Zs h5)) (Zs h3)) (by rw[Zs h3,Zs h5];rfl) (Zs h5)) fun σ H R zz116=>?_
     obtain⟨w,σD,M,QD,S,g,aq⟩:=zz116
     refine Y7 S g fun v w1 d M1 x1 r1 rd1 q1=>?_
     refine Y7 (S.next x1 r1) q1 fun v2 w2 d2 M2 x2 r2 rd2 q2=>?_
     split at q2
     ·cases Ze.mp rd1
      cases Ze.mp rd2
      exact⟨_,_,rfl,q2.1,aq _ w2 _ _ M2 (x1.trans x2) r2 Z40 q2.2⟩
     ·exact q2.elim
    | [],_,h=>exact absurd h Bool.false_ne_true
    | [_],_,h=>exact absurd h Bool.false_ne_true
    | [_,_],_::_,h=>exact absurd h Bool.false_ne_true
    | _::_::_::_,_,h=>exact absurd h Bool.false_ne_true
   | _=>exact absurd h Bool.false_ne_true
  | _=>exact absurd h Bool.false_ne_true
 | .zip es,k,Z,w0,X,tg,ex,G,h,ht=>by
  cases tg with
  | Tuple elts ctx tp=>
   obtain⟨l,ls,p,q,rfl,h2⟩:=Z57 h
   simp only[Bool.and_eq_true,List.contains_iff_mem] at h2
   obtain⟨⟨h3,h4⟩,h5⟩:=h2
   obtain⟨g1,g2,g3⟩:=G.gl h3
   obtain⟨s1,s2⟩:=Y73 h5
   refine PI.imp (Zx3 g1 (G.blt _ h4) (Wq c es k Z w0 X (l::ls) G h5).1 s1 s2) fun σ H R zz117=>?_
   obtain⟨w,σD,M,QD,S,g,aq⟩:=zz117
   refine⟨w,σD,M,_,S,g,fun vs w1 ds M1 x1 r1 rd1 q1=>?_⟩
   obtain⟨da,db,rfl,q2⟩:=Qc q1
   obtain⟨n,rfl,q3⟩:=Ys q2
   obtain⟨m,rfl,ys,zs,z1,z2,z3⟩:=Ys q3
   obtain⟨v1,v2,rfl,a1,a2⟩:=rds2 rd1
   obtain⟨hn,rfl⟩:=Zh.mp a1
   obtain⟨hm,rfl⟩:=Zh.mp a2
   have hK:X.K=w1.K:=by rw[x1.K,S.K,G.eK]
   obtain⟨_,us,y1,_,_⟩:=r1.listL z1
   obtain⟨_,vs,y2,_,_⟩:=r1.listL z2
   rw[←hK] at y1 y2
   exact⟨_,_,rfl,⟨us,y1⟩,⟨vs,y2⟩,aq _ w1 _ _ M1 x1 r1 (Zv2 hK hn hm) z3⟩
  | _=>exact absurd ht Bool.false_ne_true
 | .enm a,k,Z,w0,X,tg,ex,G,h,ht=>by
  cases tg with
  | Tuple elts ctx tp=>
   cases ex with
   | Call fn ls kws pos=>
    cases fn with
    | Name x np=>
     match ls,kws,h with
     | [l],[],h=>
      change (_&&_)=true at h
      simp only[Bool.and_eq_true,beq_iff_eq,List.contains_iff_mem] at h
      obtain⟨⟨⟨⟨rfl,h1⟩,h2⟩,h3⟩,h4⟩:=h
      obtain⟨g1,g2,g3⟩:=G.gl h1
      refine PI.imp (Zw4 g1 (G.blt _ h2) (V7 (Zk c a k Z w0 X l G h4).1 Rr (Zs h3)) (Zs h3)) fun σ H R zz118=>?_
      obtain⟨w,σD,M,QD,S,g,aq⟩:=zz118
      refine Y7 S g fun v w1 d M1 x1 r1 rd1 q1=>?_
      have hK:X.K=w1.K:=by rw[x1.K,S.K,G.eK]
      split at q1
      ·obtain⟨hn,rfl⟩:=Zh.mp rd1
       obtain⟨xs,z1,z2⟩:=q1
       obtain⟨_,vs,y1,y2,_⟩:=r1.listL z1
       rw[←hK] at y1
       exact⟨_,rfl,⟨vs,y1⟩,aq _ w1 _ _ M1 x1 r1 (Zc5 hK hn) z2⟩
      ·exact q1.elim
     | [],_,h=>exact absurd h Bool.false_ne_true
     | [_],_::_,h=>exact absurd h Bool.false_ne_true
     | _::_::_,_,h=>exact absurd h Bool.false_ne_true
    | _=>exact absurd h Bool.false_ne_true
   | _=>exact absurd h Bool.false_ne_true
  | _=>exact absurd ht Bool.false_ne_true
end
noncomputable def E1:Expr→Bool
 | .ListComp .. | .SetComp .. | .DictComp ..=>false
 | _=>true
noncomputable def Z33:Expr→Bool
 | .Tuple ..=>false
 | _=>true
noncomputable def Zj1:Expr→Bool
 | .Name ..=>true
 | _=>false
noncomputable def Zq5(k:Ck)(t x:Expr):Bool:=match t,x with
 | .Name n pos,.ListComp _ _ scope p=>k.sc.kind== .function&&k.loc n&&pos.line==p.line&&!(scope.names.any fun(m,j)=>m==n&&(j== .local || j== .cell))
 | _,_=>false
noncomputable def Y03(k:Ck)(t x:Expr):Bool:=match t,x with
 | .Name n _,.ListComp ..=>k.sc.names.lookup n==some .cell
 | _,_=>false
mutual
noncomputable def chkS(k:Ck):S→Stmt→Bool
 | .ret e,.Return (some x) _=>chkE k e x
 | .expr e,.Expr x _=>E1 x&&chkE k e x
 | .set tg e,.Assign [t] x _=>Pg k tg t&&chkE k e x&&((E1 x&&(Zj1 t || Z33 x)) || (Zq5 k t x&&decide (tg.length=1)) || Y03 k t x)
 | .put o i v,.Assign [.Subscript l r _] x _=>Gp r&&E1 x&&chkE k v x&&chkE k o l&&chkE k i r
 | .ite t a b,.If x ls rs _=>chkE k t x&&noIf t&&Yp k a ls&&Yp k b rs
 | .for_ tg it b,.For t x ls [] _=>k.calm&&k.loops&&C0 x&&Pg k tg t&&Zb9 k it x&&Yp k b ls&&itTg it t
 | .forK tg e b,.For t x ls [] _=>k.calm&&k.loops&&C0 x&&Pg k tg t&&chkE k e x&&Yp k b ls
 | .while_ t b,.While x ls [] _=>k.loops&&chkE k t x&&noIf t&&Yp k b ls
 | _,_=>false
noncomputable def Yp(k:Ck):Ss→List Stmt→Bool
 | .nil,[]=>true
 | .cons s r,x::xs=>chkS k s x&&Yp k r xs
 | _,_=>false
end
section
variable{c:Cfg}{k:Ck}{Z:DX}{w0:Vw}{X:Cx}
theorem Gs{x:Expr}{t:Option Expr}{line:Nat}{env:Env}(h:E1 x=true):swapsWith x t line env=pure false:=by
 cases x<;>first | rfl | cases h
theorem Q7{f:DS}{σ:L2.St}{w:Vw}{σD:DEnv}{M:Z2}{H:Hp}{R:Ends}{RR:DEnds}(S:StOk w0 w σD M σ H)(h:f RR σD M)
  (h1:∀σ' w' σD' M',Ext w w'→RS w' M'→REnv w' σD' σ'→RR.nx σD' M'→R.nx σ' w'.H) (h2:Aft w RR.rt R.rt)
  (h3:∀σ' w' σD' M',Ext w w'→RS w' M'→REnv w' σD' σ'→RR.bk σD' M'→R.bk σ' w'.H)
  (h4:∀σ' w' σD' M',Ext w w'→RS w' M'→REnv w' σD' σ'→RR.ct σD' M'→R.ct σ' w'.H):tFS w0 f R σ H:=⟨w,σD,M,RR,S,h,h1,h2,h3,h4⟩
noncomputable def Zn3(X:Cx)(R:Ends):Ends:={nx:=fun σ H=>∃a o kvs,H a=some (.frz o (.dK kvs))∧(∀o u,X.H₀ a≠some (.frz o u))∧R.nx σ (upd H a (.dK kvs)),rt:=fun v H=>∃a o kvs,H a=some (.frz o (.dK kvs))∧(∀o u,X.H₀ a≠some (.frz o u))∧R.rt v (upd H a (.dK kvs))}
theorem Zs6{st:Stmt}{t:TS}(h:PS X st t):PS X st (fun R σ H=>t (Zn3 X R) σ H):=by
 intro pins s σ H D I q
 refine thn (h pins s σ H (Zn3 X D) I q) fun f s' hp=>?_
 cases f with
 | next=>
  obtain⟨σ',H',I',a,o,kvs,e,nf,q⟩:=hp
  exact⟨σ',_,Zj5 I' e nf,q⟩
 | brk=>obtain⟨σ',H',I',q⟩:=hp;exact q.elim
 | cont=>obtain⟨σ',H',I',q⟩:=hp;exact q.elim
 | ret u=>
  obtain⟨v,σ',H',I',r,a,o,kvs,e,nf,q⟩:=hp
  exact⟨v,σ',_,Zj5 I' e nf,r,q⟩
theorem REnv.ext0{w w':Vw}{σD:DEnv}{σ:L2.St}(h:REnv w σD σ)(x:Ext0 w w'):REnv w' σD σ:=
 ⟨h.1,fun i d e=>by obtain⟨v,q,r⟩:=h.2 i d e;exact⟨v,q,r.ext0 x⟩⟩
theorem Jk{w1 w':Vw}{M':Z2}{n:Nat}{o:Obj}{vs:List (Key×V)}{kvs:List (Key×D)}(hn:n<w1.n)(y1:w1.H (w1.μ n)=some (.dK vs))(x:Ext (w1.alloc (w1.μ n) (.frz o (.dK vs))) w')(r:RS w' M')(t:M'[n]?=some (.fdc kvs)):
  w'.H (w1.μ n)=some (.frz o (.dK vs))∧Ext w1 (w'.alloc (w1.μ n) (.dK vs))∧Ext0 w' (w'.alloc (w1.μ n) (.dK vs))∧RS (w'.alloc (w1.μ n) (.dK vs)) (M'.set n (.dct kvs)):=by
 have q:=x.imm (w1.μ n) _ Zw rfl
 have eμ:w'.μ n=w1.μ n:=x.μ n hn
 obtain⟨o',us,q1,q2⟩:=r.cell n _ t
 rw[eμ,q] at q1
 cases q1
 refine⟨q,Zc2 y1 rfl x,N9 q,?_⟩
 have:=r.thaw t (by rw[eμ];exact q) q2
 rw[eμ] at this
 exact this
theorem Bv{w1:Vw}{J:L2.It}{own:Own}{xs:List D}{tg:List Nat}{body:DS}{M1:Z2}{H1:Hp}{σD:DEnv}{σ:L2.St}{RR:DEnds}{R:Ends}(S:StOk w0 w1 σD M1 σ H1)(jk:JOk w1 J own xs)
  (h:forD own xs tg body xs RR σD M1)
  (h1:∀σ' w' σD' M',Ext w1 w'→RS w' M'→REnv w' σD' σ'→RR.nx σD' M'→R.nx σ' w'.H) (h2:Aft w1 RR.rt R.rt):
  ∃W:Nat→Nat→L2.St→Hp→Prop,(∃m,W 0 m σ H1)∧∀i m σ H,W i m σ H→
   (J.stop i H∧R.nx σ H)∨(J.go i H∧∃N:L2.St→Hp→Prop,(∀σ' H',N σ' H'→∃m',m'<m∧W (i+1) m' σ' H')∧∀x H',J.yld i H x H'→gF w0 tg x σ H' fun σ2 H2=>tFS w0 body {R with nx:=N,ct:=N,bk:=R.nx} σ2 H2):=by
 refine⟨fun i m σ H=>∃w σE M,StOk w0 w σE M σ H∧Ext w1 w∧i≤xs.length∧m=xs.length - i∧forD own xs tg body (xs.drop i) RR σE M,⟨xs.length,w1,σD,M1,S,Ext.refl _,Nat.zero_le _,rfl,h⟩,?_⟩
 rintro i m σc Hc ⟨w,σE,M,S1,x1,hi,rfl,hc⟩
 have stp:∀st:O2 own xs M,_:=fun st=>jk w M x1 S1.rs st i
 rw[S1.heap] at stp
 by_cases hil:i<xs.length
 ·rw[List.drop_eq_getElem_cons hil] at hc
  obtain⟨st,hc⟩:=hc
  obtain⟨j1,j2⟩:=(stp st).1 xs[i] (List.getElem?_eq_getElem hil)
  refine .inr ⟨j1,fun σ' H'=>∃w σE M,StOk w0 w σE M σ' H'∧Ext w1 w∧i+1≤xs.length∧forD own xs tg body (xs.drop (i+1)) RR σE M,?_,fun x H' hy=>?_⟩
  ·rintro σ' H' ⟨w2,σ2,M2,S2,x2,l2,f2⟩
   exact⟨xs.length - (i+1),by omega,w2,σ2,M2,S2,x2,l2,rfl,f2⟩
  ·obtain⟨w3,rfl,x3,R3,rd3⟩:=j2 x H' hy
   refine⟨w3,σE,M,xs[i],_,⟨rfl,S1.ext.trans x3,R3,S1.env.ext x3⟩,rd3,hc,fun σ2 σE2 env2 q2=>?_⟩
   have nxt:∀σ' w' σD' M',Ext w3 w'→RS w' M'→REnv w' σD' σ'→forD own xs tg body (xs.drop (i+1)) RR σD' M'→
     ∃w σE M,StOk w0 w σE M σ' w'.H∧Ext w1 w∧i+1≤xs.length∧forD own xs tg body (xs.drop (i+1)) RR σE M:=
    fun σ' w' σD' M' x' r' e' q'=>⟨w',σD',M',⟨rfl,(S1.ext.trans x3).trans x',r',e'⟩,(x1.trans x3).trans x',hil,q'⟩
   exact Q7 ⟨rfl,S1.ext.trans x3,R3,env2⟩ q2 nxt (fun v w' d M' x' r' rd' q'=>h2 v w' d M' ((x1.trans x3).trans x') r' rd' q')
    (fun σ' w' σD' M' x' r' e' q'=>h1 σ' w' σD' M' ((x1.trans x3).trans x') r' e' q') nxt
 ·rw[List.drop_eq_nil_of_le (by omega)] at hc
  obtain⟨st,hq⟩:=hc
  refine .inl ⟨(stp st).2 (by omega),?_⟩
  have:=h1 σc w σE M x1 S1.rs S1.env hq
  rw[S1.heap] at this
  exact this
theorem Zy3{o i value:Expr}{td ty tv:TE}{pos pos':Pos}(hu:X.A.units+1<cLine)(ho:PE X o td)(hi:PE X i ty)(hv:PE X value tv)(hs:swapsWith value (some (.Subscript o i pos')) pos.line X.env=pure false):
  PS X (.Assign [.Subscript o i pos'] value pos) (fun R σ H=>tv σ H fun v H1=>td σ H1 fun x H2=>ty σ H2 fun y H3=>Y27 x y v H3 (fun H4=>R.nx σ H4)∨∃a H4,x= .ref a∧DPut H3 a y v H4∧R.nx σ H4):=by
 intro pins s σ H D I h
 refine wpAny_Assign_Subscript (thn (hv pins s σ H _ I h) fun r s1 ⟨v,H1,I1,rv,q1⟩=>thn (ho pins s1 σ H1 _ I1 q1) fun u s2 ⟨x,H2,I2,rx,q2⟩=>thn (hi pins s2 σ H2 _ I2 q2) fun iv s3 zz121=>?_) hs
 obtain⟨y,H3,I3,ry,q3⟩:=zz121
 rcases q3 with q3 | ⟨a,H4,ex,g,q3⟩
 ·exact thn (Zg6 pins s3 σ H3 x y v u iv r (fun H4=>D.nx σ H4) I3 rx ry rv q3) fun _ s4 zz122=>by obtain⟨H4,I4,q4⟩:=zz122;exact⟨σ,H4,I4,q4⟩
 ·subst ex
  obtain rfl:u=Value.ref a:=rx
  exact Z38 hu I3 g ry rv fun s4 I4=>⟨σ,H4,I4,q3⟩
end
def Z42(c:Cfg)(s:S):Prop:=∀(k:Ck) (Z:DX) (w0:Vw) (X:Cx) (st:Stmt),Good c k Z w0 X→chkS k s st=true→PS X st (tFS w0 (ts c Z s))
def Zt8(c:Cfg)(s:Ss):Prop:=∀(k:Ck) (Z:DX) (w0:Vw) (X:Cx) (st:List Stmt),Good c k Z w0 X→Yp k s st=true→PSs X st (tFS w0 (tss c Z s))
section
variable{c:Cfg}{k:Ck}{Z:DX}{w0:Vw}{X:Cx}
end
theorem C9{k:Ck}{t x:Expr}(h:Zq5 k t x=true):∃n np el gens scope p,t= .Name n np∧x= .ListComp el gens scope p:=by
 cases t with
 | Name n np=>
  cases x with
  | ListComp el gens scope p=>exact⟨_,_,_,_,_,_,rfl,rfl⟩
  | _=>exact absurd h Bool.false_ne_true
 | _=>exact absurd h Bool.false_ne_true
theorem C8{k:Ck}{t x:Expr}(h:Y03 k t x=true):∃n np el gens scope p,t= .Name n np∧x= .ListComp el gens scope p∧k.sc.names.lookup n=some .cell:=by
 cases t with
 | Name n np=>
  cases x with
  | ListComp el gens scope p=>exact⟨_,_,_,_,_,_,rfl,rfl,eq_of_beq h⟩
  | _=>exact absurd h Bool.false_ne_true
 | _=>exact absurd h Bool.false_ne_true
theorem Er{k:Ck}{e:E}{el:Expr}{gens:List Comprehension}{scope:Scope}{p:Pos}(h:chkE k e (.ListComp el gens scope p)=true):
  ∃N' js tg it cd e' t iter ifs,e= .comp N' js tg it cd e'∧gens=[⟨t,iter,ifs,0⟩]:=by
 cases e with
 | comp N' js tg it cd e'=>
  cases gens with
  | nil=>exact absurd h Bool.false_ne_true
  | cons g r=>
   cases g with
   | mk t iter ifs as=>
    cases as with
    | ofNat n=>
     cases n with
     | zero=>
      cases r with
      | nil=>exact⟨_,_,_,_,_,_,_,_,_,rfl,rfl⟩
      | cons _ _=>exact absurd h Bool.false_ne_true
     | succ n=>exact absurd h Bool.false_ne_true
    | negSucc n=>exact absurd h Bool.false_ne_true
 | bop b es=>cases b<;>exact absurd h Bool.false_ne_true
 | _=>exact absurd h Bool.false_ne_true
theorem Z72(c:Cfg)(tg:List Nat)(e:E):Z42 c (.set tg e):=by
  intro k Z w0 X st G h
  cases st with
  | Assign ts' x pos=>
   match ts',h with
   | [t],h=>
    change (_&&_)=true at h
    simp only[Bool.and_eq_true,Bool.or_eq_true,decide_eq_true_eq] at h
    obtain⟨⟨ht,he⟩,h⟩:=h
    rcases h with(⟨hc,hs⟩ | ⟨hs,hl⟩) | hs
    rotate_left 2
    ·obtain⟨n,np,el,gens,scope,p,rfl,rfl,hcell⟩:=C8 hs
     have h1:swapsWithSole [.Name n np] (.ListComp el gens scope p) pos.line X.env=pure false:=by
      have hk:X.env.kindOf n=some .cell:=by
       unfold Env.kindOf
       rw[G.sc];exact hcell
      have hk':(X.env.kindOf n==some NameKind.local)=false:=by rw[hk];rfl
      unfold swapsWithSole swapsWith
      simp only[hk',Bool.and_false,Bool.false_and]
     refine PS.imp (Zj9 (Zk c e k Z w0 X _ G he).1 (G.tgt tg _ ht) h1 rfl rfl) fun R σ H zz123=>?_
     obtain⟨w,σD,M,RR,S,q,q1,q2,q3,q4⟩:=zz123
     refine Y7 S q fun v w' d M' x' r' rd' q'=>?_
     exact⟨w',σD,M',d,_,S.next x' r',rd',q',fun σ' σD' e' z=>q1 σ' w' σD' M' x' r' e' z⟩
    ·have h1:swapsWithSole [t] x pos.line X.env=pure false:=Gs hc
     have h2:swappedStores [t] x X.env=pure none:=by
      cases t with
      | Name n p=>cases x<;>rfl
      | Tuple es kk p=>
       have:Z33 x=true:=hs.resolve_left (by simp[Zj1])
       cases x<;>first | rfl | cases this
      | _=>exact absurd ht Bool.false_ne_true
     have h3:(assignEach [t] X.env).map (·.2)=[assign t X.env]:=by
      cases t with
      | Name n p=>rfl
      | Tuple es kk p=>rfl
      | _=>exact absurd ht Bool.false_ne_true
     refine PS.imp (Zj9 (Zk c e k Z w0 X x G he).1 (G.tgt tg t ht) h1 h2 h3) fun R σ H zz124=>?_
     obtain⟨w,σD,M,RR,S,q,q1,q2,q3,q4⟩:=zz124
     refine Y7 S q fun v w' d M' x' r' rd' q'=>?_
     exact⟨w',σD,M',d,_,S.next x' r',rd',q',fun σ' σD' e' z=>q1 σ' w' σD' M' x' r' e' z⟩
    ·match tg,hl,ht with
     | [i],_,ht=>
      obtain⟨n,np,el,gens,scope,p,rfl,rfl⟩:=C9 hs
      obtain⟨N',js,tg,it,cd,e,t2,iter,ifs,rfl,rfl⟩:=Er he
      change (_&&_)=true at he
      simp only[Bool.and_eq_true,decide_eq_true_eq] at he
      obtain⟨⟨⟨⟨⟨⟨⟨⟨h1,h2⟩,h3⟩,h4⟩,h5⟩,h6⟩,h7⟩,h8⟩,h9⟩:=he
      change (_&&_)=true at ht
      simp only[Bool.and_eq_true,beq_iff_eq] at ht
      simp only[Zq5,Bool.and_eq_true,beq_iff_eq,Bool.not_eq_true'] at hs
      obtain⟨⟨⟨s1,s2⟩,s3⟩,s4⟩:=hs
      have hl':X.env.scope.names.lookup n=some .local:=by
       unfold Ck.loc at s2
       rw[G.sc];exact eq_of_beq s2
      have hsw:swapsWith (.ListComp el [⟨t2,iter,ifs,0⟩] scope p) (some (.Name n np)) pos.line X.env=pure true:=by
       unfold swapsWith
       have hb:(X.env.blockKind==ScopeKind.function)=true:=by
        unfold Env.blockKind
        rw[G.sc,s1];rfl
       have hk:(X.env.kindOf n==some NameKind.local)=true:=by
        unfold Env.kindOf
        rw[hl'];rfl
       have hp:(np.line==(Expr.ListComp el [⟨t2,iter,ifs,0⟩] scope p).pos.line)=true:=by
        show(np.line==p.line)=true
        rw[s3];simp
       simp only[hb,hk,hp,s4,Bool.not_false,Bool.and_self]
      refine PS.imp ((Pm G h1 h2 h3 h5 (Z51 c it k Z w0 X t2 iter G h4 h9) h6 h7 h8 (Zk c e) (Fv c cd)).2 i n np pos (by rw[G.N];exact ht.1) hl' hsw) fun R σ H zz125=>?_
      obtain⟨w,σD,M,RR,S,q,q1,q2,q3,q4⟩:=zz125
      have q:te c Z (.comp N' js tg it cd e) σD M fun d M1=>RR.nx (σD.set i (some d)) M1:=q
      refine Y7 S q fun v w' d M' x' r' rd' q'=>?_
      exact q1 _ w' _ M' x' r' ((S.env.ext x').set i rd') q'
     | [],hl,_=>simp at hl
     | _::_::_,hl,_=>simp at hl
   | [],h=>exact absurd h Bool.false_ne_true
   | _::_::_,h=>exact absurd h Bool.false_ne_true
  | _=>exact absurd h Bool.false_ne_true
theorem Z30(c:Cfg)(o i v:E):Z42 c (.put o i v):=by
  intro k Z w0 X st G h
  cases st with
  | Assign ts' x pos=>
   match ts',h with
   | [t],h=>
    cases t with
    | Subscript l r p=>
     change (_&&_)=true at h
     simp only[Bool.and_eq_true] at h
     obtain⟨⟨⟨⟨h1,h2⟩,h3⟩,h4⟩,h5⟩:=h
     refine PS.imp (Zy3 (by have:=G.units;omega) (Zk c o k Z w0 X l G h4).1 (Zk c i k Z w0 X r G h5).1 (Zk c v k Z w0 X x G h3).1 (Gs h2)) fun R σ H zz126=>?_
     obtain⟨w,σD,M,RR,S,q,q1,q2,q3,q4⟩:=zz126
     refine Y7 S q fun vv w1 dv M1 x1 r1 rd1 z1=>?_
     refine Y7 (S.next x1 r1) z1 fun vo w2 dob M2 x2 r2 rd2 z2=>?_
     refine Y7 ((S.next x1 r1).next x2 r2) z2 fun vi w3 di M3 x3 r3 rd3 z3=>?_
     split at z3
     ·obtain⟨hn,rfl⟩:=Zh.mp (rd2.ext x3)
      rcases z3 with⟨xs,kk,j,rfl,y1,y2,y3⟩ | ⟨kvs,kk,y1,y2,y3,y4⟩
      ·cases Ze.mp rd3
       obtain⟨hn,vs,u1,u2⟩:=r3.list y1
       obtain⟨t1,t2⟩:=We r3 hn u1 (u2.set (rd1.ext (x2.trans x3)) j)
       exact .inl ⟨_,vs,kk,j,rfl,rfl,u1,by rw[u2.length];exact y2,q1 σ _ σD _ (((x1.trans x2).trans x3).trans t1) t2 (S.env.ext (((x1.trans x2).trans x3).trans t1)) y3⟩
      ·obtain⟨hn,vs,u1,u2⟩:=r3.dict y1
       cases Vu y2 rd3
       obtain⟨t1,t2⟩:=Vf r3 hn u1 (u2.put (k:=kk) (rd1.ext (x2.trans x3)))
       exact .inr ⟨_,_,rfl,DPut.k (k:=kk) u1 (by rw[u2.length];exact y3),q1 σ _ σD _ (((x1.trans x2).trans x3).trans t1) t2 (S.env.ext (((x1.trans x2).trans x3).trans t1)) y4⟩
     ·exact z3.elim
    | _=>exact absurd h Bool.false_ne_true
   | [],h=>exact absurd h Bool.false_ne_true
   | a::b::r,h=>cases a<;>exact absurd h Bool.false_ne_true
  | _=>exact absurd h Bool.false_ne_true
mutual
theorem Z71(c:Cfg):∀s:S,Z42 c s
 | .ret e,k,Z,w0,X,st,G,h=>by
  cases st with
  | Return v pos=>
   cases v with
   | some x=>exact PS.imp (Zk1 (Zk c e k Z w0 X x G h).1) fun R σ H zz127=>by obtain⟨w,σD,M,RR,S,q,h1,h2,h3,h4⟩:=zz127;exact Y7 S q h2
   | none=>exact absurd h Bool.false_ne_true
  | _=>exact absurd h Bool.false_ne_true
 | .expr e,k,Z,w0,X,st,G,h=>by
  cases st with
  | Expr x pos=>
   change (_&&_)=true at h
   simp only[Bool.and_eq_true] at h
   exact PS.imp (Zu4 (Zk c e k Z w0 X x G h.2).1 (Gs h.1)) fun R σ H zz128=>by obtain⟨w,σD,M,RR,S,q,h1,h2,h3,h4⟩:=zz128;exact Y7 S q fun v w' d M' x' r' rd' q'=>h1 σ w' σD M' x' r' (S.env.ext x') q'
  | _=>exact absurd h Bool.false_ne_true
 | .set tg e,k,Z,w0,X,st,G,h=>Z72 c tg e k Z w0 X st G h
 | .put o i v,k,Z,w0,X,st,G,h=>Z30 c o i v k Z w0 X st G h
 | .ite t a b,k,Z,w0,X,st,G,h=>by
  cases st with
  | If x ls rs pos=>
   change (_&&_)=true at h
   simp only[Bool.and_eq_true] at h
   obtain⟨⟨⟨h1,h2⟩,h3⟩,h4⟩:=h
   refine PS.imp (Y68 ((Zk c t k Z w0 X x G h1).2 h2) (T4 c a k Z w0 X ls G h3) (T4 c b k Z w0 X rs G h4)) fun R σ H zz129=>?_
   obtain⟨w,σD,M,RR,S,q,q1,q2,q3,q4⟩:=zz129
   refine⟨w,σD,M,_,S,q,fun z w1 M1 x1 r1 y1=>?_⟩
   have fin:∀{f:DS},f RR σD M1→tFS w0 f R σ w1.H:=fun hf=>Q7 (S.next x1 r1) hf (fun σ' w' σD' M' x' r' e' z=>q1 σ' w' σD' M' (x1.trans x') r' e' z) (q2.ext x1)
    (fun σ' w' σD' M' x' r' e' z=>q3 σ' w' σD' M' (x1.trans x') r' e' z) (fun σ' w' σD' M' x' r' e' z=>q4 σ' w' σD' M' (x1.trans x') r' e' z)
   cases z with
   | true=>
    rw[if_pos rfl] at y1
    show if (true:Bool)=true then _ else _
    rw[if_pos rfl];exact fin y1
   | false=>
    rw[if_neg Bool.false_ne_true] at y1
    show if (false:Bool)=true then _ else _
    rw[if_neg Bool.false_ne_true];exact fin y1
  | _=>exact absurd h Bool.false_ne_true
 | .for_ tg it b,k,Z,w0,X,st,G,h=>by
  cases st with
  | For t x ls els pos=>
   cases els with
   | nil=>
    change (_&&_)=true at h
    simp only[Bool.and_eq_true] at h
    obtain⟨⟨⟨⟨⟨⟨h1,h2⟩,h3⟩,h4⟩,h5⟩,h6⟩,h7⟩:=h
    have hf:∀v,foldedSetIterable x X.env v=pure v:=by
     intro v
     cases x<;>first | rfl | cases h3
    refine PS.imp (Zj7 (G.po h2) (G.calm h1) (Z51 c it k Z w0 X t x G h5 h7) (G.tgt tg t h4) (T4 c b k Z w0 X ls G h6) hf) fun R σ H zz130=>?_
    obtain⟨w,σD,M,RR,S,q,q1,q2,q3,q4⟩:=zz130
    refine⟨w,σD,M,_,S,q,fun J w1 own xs M1 x1 r1 jk z=>?_⟩
    exact Bv (S.next x1 r1) jk z (fun σ' w' σD' M' x' r' e' z=>q1 σ' w' σD' M' (x1.trans x') r' e' z) (q2.ext x1)
   | cons _ _=>exact absurd h Bool.false_ne_true
  | _=>exact absurd h Bool.false_ne_true
 | .forK tg e b,k,Z,w0,X,st,G,h=>by
  cases st with
  | For t x ls els pos=>
   cases els with
   | nil=>
    change (_&&_)=true at h
    simp only[Bool.and_eq_true] at h
    obtain⟨⟨⟨⟨⟨h1,h2⟩,h3⟩,h4⟩,h5⟩,h6⟩:=h
    have hf:∀v,foldedSetIterable x X.env v=pure v:=by
     intro v
     cases x<;>first | rfl | cases h3
    refine PS.imp (Zs6 (Zj7 (G.po h2) (G.calm h1) (Zt2 (Zk c e k Z w0 X x G h5).1) (G.tgt tg t h4) (T4 c b k Z w0 X ls G h6) hf)) fun R σ H zz131=>?_
    obtain⟨w,σD,M,RR,S,q,q1,q2,q3,q4⟩:=zz131
    refine Y7 S q fun v w1 d M1 x1 r1 rd1 z=>?_
    split at z
    ·obtain⟨hn,rfl⟩:=Zh.mp rd1
     obtain⟨kvs,z1,z2⟩:=z
     obtain⟨hM,vs,y1,y2⟩:=r1.dict z1
     refine⟨_,vs,rfl,y1,fun o nf=>?_⟩
     rename_i _ n
     have x2:Ext w1 (w1.alloc (w1.μ n) (.frz o (.dK vs))):=Wf y1 rfl
     have r2:RS (w1.alloc (w1.μ n) (.frz o (.dK vs))) (M1.set n (.fdc kvs)):=r1.write hM rfl rfl y1 rfl ⟨o,vs,Zw,y2.ext x2⟩
     refine Bv (R:=Zn3 X R) (S.next (x1.trans x2) r2) (Fu (w1:=w1.alloc (w1.μ n) (.frz o (.dK vs))) (n:=n) hn Zw) z2 (fun σ' w' σD' M' x' r' e' ⟨kvs',t1,t2⟩=>?_) (fun v w' d M' x' r' rd' ⟨kvs',t1,t2⟩=>?_)
     ·obtain⟨a1,a2,a3,a4⟩:=Jk hn y1 x' r' t1
      exact⟨_,o,vs,a1,nf,q1 σ' _ σD' _ (x1.trans a2) a4 (e'.ext0 a3) t2⟩
     ·obtain⟨a1,a2,a3,a4⟩:=Jk hn y1 x' r' t1
      exact⟨_,o,vs,a1,nf,q2 v _ d _ (x1.trans a2) a4 (rd'.ext0 a3) t2⟩
    ·exact z.elim
   | cons _ _=>exact absurd h Bool.false_ne_true
  | _=>exact absurd h Bool.false_ne_true
 | .while_ t b,k,Z,w0,X,st,G,h=>by
  cases st with
  | While x ls els pos=>
   cases els with
   | nil=>
    change (_&&_)=true at h
    simp only[Bool.and_eq_true] at h
    obtain⟨⟨⟨h1,h2⟩,h3⟩,h4⟩:=h
    refine PS.imp (Zc6 (G.po h1) ((Zk c t k Z w0 X x G h2).2 h3) (T4 c b k Z w0 X ls G h4)) fun R σ H zz134=>?_
    obtain⟨w,σD,M,RR,S,q,q1,q2,q3,q4⟩:=zz134
    obtain⟨W,⟨m0,hm0⟩,step⟩:=q
    refine⟨fun m σ H=>∃w2 σE M2,StOk w0 w2 σE M2 σ H∧Ext w w2∧W m σE M2,⟨m0,w,σD,M,S,Ext.refl w,hm0⟩,?_⟩
    rintro m σ2 H2 ⟨w2,σE,M2,S2,x2,hW⟩
    refine⟨w2,σE,M2,_,S2,step m σE M2 hW,fun z w3 M3 x3 r3 y3=>?_⟩
    cases z with
    | false=>
     rw[if_neg Bool.false_ne_true] at y3 ⊢
     exact q1 σ2 w3 σE M3 (x2.trans x3) r3 (S2.env.ext x3) y3
    | true=>
     rw[if_pos rfl] at y3 ⊢
     have nxt:∀σ' w' σD' M',Ext w3 w'→RS w' M'→REnv w' σD' σ'→(∃m',m'<m∧W m' σD' M')→∃m',m'<m∧∃w2 σE M2,StOk w0 w2 σE M2 σ' w'.H∧Ext w w2∧W m' σE M2:=
      fun σ' w' σD' M' x' r' e' zz135=>by obtain⟨m',l',z'⟩:=zz135;exact⟨m',l',w',σD',M',⟨rfl,(S2.ext.trans x3).trans x',r',e'⟩,(x2.trans x3).trans x',z'⟩
     refine⟨fun σ' H'=>∃m',m'<m∧∃w2 σE M2,StOk w0 w2 σE M2 σ' H'∧Ext w w2∧W m' σE M2,fun σ' H' z=>z,?_⟩
     exact Q7 (S2.next x3 r3) y3 nxt (fun v w' d M' x' r' rd' z'=>q2 v w' d M' ((x2.trans x3).trans x') r' rd' z') (fun σ' w' σD' M' x' r' e' z'=>q1 σ' w' σD' M' ((x2.trans x3).trans x') r' e' z') nxt
   | cons _ _=>exact absurd h Bool.false_ne_true
  | _=>exact absurd h Bool.false_ne_true
theorem T4(c:Cfg):∀s:Ss,Zt8 c s
 | .nil,k,Z,w0,X,st,G,h=>by
  cases st with
  | nil=>
   refine PSs.imp Zl8 fun R σ H zz136=>?_
   obtain⟨w,σD,M,RR,S,q,h1,_⟩:=zz136
   have:=h1 σ w σD M (Ext.refl w) S.rs S.env q
   rw[S.heap] at this
   exact this
  | cons _ _=>exact absurd h Bool.false_ne_true
 | .cons s r,k,Z,w0,X,st,G,h=>by
  cases st with
  | nil=>exact absurd h Bool.false_ne_true
  | cons x xs=>
   change (_&&_)=true at h
   simp only[Bool.and_eq_true] at h
   refine PSs.imp (Oa (Z71 c s k Z w0 X x G h.1) (T4 c r k Z w0 X xs G h.2)) fun R σ H zz137=>?_
   obtain⟨w,σD,M,RR,S,q,h1,h2,h3,h4⟩:=zz137
   refine Q7 S q ?_ h2 h3 h4
   intro σ' w' σD' M' x' r' e' q'
   exact Q7 ⟨rfl,S.ext.trans x',r',e'⟩ q' (fun σ2 w2 σD2 M2 x2 r2 e2 z=>h1 σ2 w2 σD2 M2 (x'.trans x2) r2 e2 z) (h2.ext x') (fun σ2 w2 σD2 M2 x2 r2 e2 z=>h3 σ2 w2 σD2 M2 (x'.trans x2) r2 e2 z) (fun σ2 w2 σD2 M2 x2 r2 e2 z=>h4 σ2 w2 σD2 M2 (x'.trans x2) r2 e2 z)
end
theorem FnOk.cx{P:Program}{w:World}{K:PySem.W.Frag}{mg:Str→Option Value}{base:Heap}{CX:CXT}{k:Nat}{f:Addr}{fd:FuncData}{ps:List Str}{sp:Sp}(F:FnOk P w K mg base CX0 k f fd ps sp):FnOk P w K mg base CX k f fd ps sp:=
 ⟨F.len,fun A outer s H args us vs Q E hr he hb hv hs=>codeAny_mono (F.run A outer s H args us vs Q E hr he hb hv hs) fun r s' h=>by
  cases r with
  | error e=>exact False.elim h
  | ok fl=>cases fl<;>exact h⟩
structure Prg(P:Program)(w:World)(K:PySem.W.Frag)(mg:Str→Option Value)(base:Heap)(c:Cfg)(FN GN BN:List Str)(lv:Nat):Prop where
 hK:c.K=K
 fns:∀(f:Nat) (x:Str) (sp:DSp),FN[f]?=some x→c.Γ[f]?=some sp→∃(kk:Nat) (f:Addr) (fd:FuncData) (ps:List Str) (ds:List Value) (dvs:List V) (dD:List D) (sp0:DSp),FnOk P w K mg base (CX1 P w) kk f fd ps (spF K sp0)∧kk≤lv∧mg x=some (.ref f)∧PySem.W.keepIn K (.ref f)=true∧
  Ym K fd ps ds∧Vals dvs ds∧(∀w:Vw,w.K=K→RDs w dD dvs)∧∀as M Q Z,sp as M Q Z→sp0 (as++dD) M Q Z
 flen:FN.length=c.Γ.length
 glb:∀(g:Nat) (x:Str) (d:D),GN[g]?=some x→c.G[g]?=some d→∃v u,mg x=some u∧RelV v u∧∀w:Vw,w.K=K→RD w d v
 blt:∀x,x∈BN→mg x=none
noncomputable def start0(N:List Str)(ds:List D):DEnv:=ds.map some++List.replicate (N.length - ds.length) none
theorem Nf{w:Vw}{N:List Str}{ds:List D}{vs:List V}(r:RDs w ds vs):REnv w (start0 N ds) (L2.start N vs):=by
 refine⟨by unfold start0 L2.start;simp[r.length],fun i d e=>?_⟩
 unfold start0 at e
 unfold L2.start
 by_cases hi:i<ds.length
 ·rw[List.getElem?_append_left (by simpa using hi),List.getElem?_map] at e
  rw[List.getElem?_append_left (by rw[List.length_map,r.length];exact hi),List.getElem?_map]
  cases hd:ds[i]? with
  | none=>rw[hd] at e;cases e
  | some d'=>
   rw[hd] at e
   have e':d'=d:=by simpa using e
   subst e'
   obtain⟨v,q1,q2⟩:=r.get hd
   exact⟨v,by rw[q1];rfl,q2⟩
 ·rw[List.getElem?_append_right (by simpa using hi)] at e
  have:=List.getElem?_eq_some_iff.mp e
  simp at this
section
variable{P:Program}{w:World}{K:PySem.W.Frag}{mg:Str→Option Value}{base:Heap}{c:Cfg}{FN GN BN:List Str}{lv:Nat}{x qual:Str}{st:Stmt}{f:Addr}{fd:FuncData}{N ps:List Str}
noncomputable abbrev ck0(N:List Str)(st:Stmt)(FN GN BN:List Str):Ck:=⟨N,Z3 st,FN,GN,BN,true,true,true,[],true,[]⟩
theorem fn0(Pr:Prg P w K mg base c FN GN BN lv)(F:Fun K x qual st f fd)(S:FnScope N ps (Z3 st)){body:Ss}(hc:Yp (ck0 N st FN GN BN) body (Z5 st)=true){sp:DSp}(hl:∀ds M Q Z,sp ds M Q Z→ds.length=ps.length)
  (hb:∀ds M Q Z,sp ds M Q Z→tss c noX body {nx:=fun _ M=>Q .non M,rt:=Q} (start0 N ds) M):FnOk P w K mg base (CX1 P w) (lv+1) f fd ps (spF K sp):=by
 refine FnOk.cx (F.ok S (fun vs H Q E h=>?_) fun cdv A outer s H vs Q E hr h=>?_)
 ·obtain⟨w,ds,M,QD,Z,_,_,_,r,h,_⟩:=h
  rw[r.length];exact hl _ _ _ _ h
 obtain⟨w',ds,M,QD,Z,hK',rfl,R,r,h,a,xk⟩:=h
 have G:Good c (ck0 N st FN GN BN) noX w' (cxOf CX0 P w K mg base N qual (Z3 st) f cdv A outer s w'.H E).nox:=
  {hK:=Pr.hK.symm
   wK:=hK'.trans Pr.hK.symm
   N:=rfl
   nd:=S.nd
   sc:=rfl
   calm:=fun _=>rfl
   units:=hr.units
   fns:=fun _ f x sp h1 h2=>by
    obtain⟨kk,f,fd,ps,ds,dvs,dD,sp0,F,hk,h⟩:=Pr.fns f x sp h1 h2
    exact⟨kk,f,fd,ps,ds,dvs,dD,sp0,F,hr.mono hk,h⟩
   flen:=Pr.flen
   glb:=Pr.glb
   blt:=Pr.blt
   exc:=⟨E0,fun _ _ _ _ _ _ _ h=>by
    obtain⟨_,_,_,_,_,_,_,_,_,_,_,_,_,_,_,h⟩:=h
    exact h.elim,fun cls dd H' h=>by
    obtain⟨_,_,_,_,_,_,_,_,_,_,_,_,_,h⟩:=h
    exact h.elim⟩
   stk:=fun _=>⟨rfl,rfl⟩
   po:=fun _=>PassesOwn.never
   fnc:=fun _ _=>rfl
   fno:=fun _ h=>by cases h}
 refine⟨_,T4 c body _ _ w' _ _ G hc,w',start0 N ds,M,{nx:=fun _ M=>QD .non M,rt:=QD},⟨rfl,Ext.refl w',R,Nf r⟩,hb _ _ _ _ h,?_,a,?_,?_⟩
 ·exact fun σ' w2 σD' M' x' r' e' q'=>a .non w2 .non M' x' r' (Zt.mpr rfl) q'
 ·exact fun σ' w2 σD' M' x' r' e' q'=>q'.elim
 ·exact fun σ' w2 σD' M' x' r' e' q'=>q'.elim
end
def Bw:DSp:=fun ds M Q _=>∃ns:List Int,ds=[.ref 0]∧M=[.frz (ns.map .int)]∧ns.length≤63∧(∀i∈ns,Bits bigN i)∧∀M',Q (.bl true) M'
theorem Fo(w:Vw):∀ns:List Int,RDs w (ns.map .int) (ns.map V.int)
 | []=>RDs.nil w
 | _::r=>RDs.cons (Ze.mpr rfl) (Fo w r)
theorem Bm{l:PySem.W.OpenLaw}{k:Nat}{q:Program}{loose:List Str}{XP:(Str→Option Value)→Heap→Prop}{YP:World→Heap→Prop}{d:DefRec}{K:Params→PySem.W.Frag}{x:Str}{c0 T:Addr}(hn:l.most=some 63)(hdf:d.params.defaults=[])(hr:Room k callerA)
  (hY:∀(w:World) (h:Heap),YP w h→(K w.params).In h) (hY2:∀(w:World) (h:Heap),YP w h→h.get? T=some (PySem.W.tabObj #[]))
  (ht:∀(w:World) (h:Heap),(K w.params).In h→PySem.W.tabIn (K w.params) "_law_inmost"=some (c0,T)∧PySem.W.noTabs (K w.params)=true∧PySem.W.codeHdIn (K w.params) c0 T=true)
  (F:∀(w:World) (mg:Str→Option Value) (fa:Addr) (h:Heap),(K w.params).In h→h.Ns mainGlobals mg→mg d.name=some (.ref fa)→
   ∃fd:FuncData,(∀(s:Shared) (u:Value),BindsTo s fd ⟨[u],[]⟩ [(x,u)])∧∀base:Heap,(K w.params).In base→base.Ns mainGlobals mg→Bs (K w.params) mg base→FnOk l.prog w (K w.params) mg base (CX1 l.prog w) k fa fd [x] (spF (K w.params) Bw)):
  PySem.W.WalkO q loose XP YP l.row.toRowW d [] (fun f vs=>PySem.call f vs):=by
 refine N3 hn hdf fun w s₀ s₁ mg mb fa o pm cd doc a vs ns G Y hmg hobj hints hlen hbits hg=>?_
 have KX:=hY w _ Y
 obtain⟨t1,t2,t3⟩:=ht w _ KX
 obtain⟨fd,hb,hF⟩:=F w mg fa _ KX G.T.g hmg
 refine Bl KX G.T.g G.T.b G.T.builtins G.T.nolimit hg G.T.bmain t1 t2 (PySem.W.codeHd_of_K KX t3) (hY2 w _ Y) hobj hints (Nat.le_trans hlen (by decide)) hr hF hb (fun H hS tA=>?_) fun H e s' h=>?_
 ·have hF:SqF (K w.params) H a (ns.map V.int):=hS
  refine⟨⟨K w.params,H,fun _=>a,1⟩,[.ref 0],[.frz (ns.map .int)],fun d _=>d= .bl true,noX,rfl,rfl,⟨rfl,fun i j ci cj ei ej mi mj _=>?_,fun i c' e=>?_,tA⟩,RDs.cons (Zh.mpr ⟨Nat.one_pos,rfl⟩) (RDs.nil _),⟨ns,rfl,rfl,hlen,hbits,fun _=>rfl⟩,fun v w' d M' _ _ rd e=>?_,fun cls dd H' h=>?_⟩
  ·have h1:=(List.getElem?_eq_some_iff.mp ei).1
   have h2:=(List.getElem?_eq_some_iff.mp ej).1
   simp at h1 h2
   omega
  ·have h1:=(List.getElem?_eq_some_iff.mp e).1
   have hi:i=0:=by simp at h1;exact h1
   subst hi
   simp at e
   subst e
   exact⟨_,hF,Fo _ ns⟩
  ·subst e
   exact Xs.mp rd
  ·obtain⟨_,_,_,_,_,_,_,_,_,_,_,_,_,h⟩:=h
   exact h.elim
 ·obtain⟨_,_,_,_,_,_,_,_,_,_,_,_,_,_,_,h⟩:=h
  exact h.elim
def bot:DSp:=fun _ _ _ _=>False
def Ent(K:PySem.W.Frag)(mg:Str→Option Value)(x:Str):Prop:=∃(f:Addr) (fd:FuncData) (ps:List Str),mg x=some (.ref f)∧PySem.W.keepIn K (.ref f)=true∧Ym K fd ps []
section
variable{P:Program}{w:World}{K:PySem.W.Frag}{mg:Str→Option Value}{base:Heap}{Γ:List DSp}{G:List D}{FN GN BN:List Str}{lv:Nat}
theorem Prg.zero(hF:∀x∈FN,Ent K mg x)(hl:FN.length=Γ.length)(hb:∀sp∈Γ,sp=bot)(hg:∀(g:Nat) (x:Str) (d:D),GN[g]?=some x→G[g]?=some d→∃v u,mg x=some u∧RelV v u∧∀w:Vw,w.K=K→RD w d v)(hB:∀x∈BN,mg x=none):
  Prg P w K mg base ⟨K,Γ,G⟩ FN GN BN 0 where
 hK:=rfl
 fns:=fun f x sp h1 h2=>by
  obtain⟨fa,fd,ps,e1,e2,e3⟩:=hF x (List.mem_of_getElem? h1)
  have hs:sp=bot:=hb sp (List.mem_of_getElem? h2)
  subst hs
  have no:∀vs H Q E,¬spF K bot vs H Q E:=fun vs H Q E zz138=>by obtain⟨_,_,_,_,_,_,_,_,_,h,_⟩:=zz138;exact h
  exact⟨0,fa,fd,ps,[],[],[],bot,⟨fun vs H Q E h=>absurd h (no vs H Q E),fun A outer s H args us vs Q E _ _ _ _ h=>absurd h (no vs H Q E)⟩,Nat.le_refl _,e1,e2,e3,.nil,fun w _=>RDs.nil w,fun _ _ _ _ h=>h.elim⟩
 flen:=hl
 glb:=hg
 blt:=hB
theorem Prg.add(Pr:Prg P w K mg base ⟨K,Γ,G⟩ FN GN BN lv)(n:Nat){x:Str}{sp:DSp}{kk lv':Nat}{f:Addr}{fd:FuncData}{ps:List Str}(hx:FN[n]?=some x)(F:FnOk P w K mg base (CX1 P w) kk f fd ps (spF K sp))(h1:kk≤lv')(h2:lv≤lv')(hm:mg x=some (.ref f))(hk:PySem.W.keepIn K (.ref f)=true)(hb:Ym K fd ps []):
  Prg P w K mg base ⟨K,Γ.set n sp,G⟩ FN GN BN lv' where
 hK:=rfl
 fns:=fun m y sp' e1 e2=>by
  by_cases hmn:n=m
  ·subst hmn
   rw[hx] at e1
   cases e1
   have hl:n<Γ.length:=by rw[←Pr.flen];exact(List.getElem?_eq_some_iff.mp hx).1
   have e2:(Γ.set n sp)[n]?=some sp':=e2
   rw[List.getElem?_set_self hl] at e2
   cases e2
   exact⟨kk,f,fd,ps,[],[],[],sp,F,h1,hm,hk,hb,.nil,fun w _=>RDs.nil w,fun as M Q Z h=>by rw[List.append_nil];exact h⟩
  ·have e2:(Γ.set n sp)[m]?=some sp':=e2
   rw[List.getElem?_set_ne hmn] at e2
   obtain⟨kk,f,fd,ps,ds,dvs,dD,sp0,F,hk,h⟩:=Pr.fns m y sp' e1 e2
   exact⟨kk,f,fd,ps,ds,dvs,dD,sp0,F,Nat.le_trans hk h2,h⟩
 flen:=by rw[Pr.flen];simp
 glb:=Pr.glb
 blt:=Pr.blt
end
theorem Z4{M N:Z2}{a:Nat}{xs:List D}(h:Z7 M a=some xs):Z7 (M++N) a=some xs:=by
 unfold Z7 at *
 have ha:a<M.length:=by
  cases e:M[a]? with
  | none=>rw[e] at h;cases h
  | some c=>exact(List.getElem?_eq_some_iff.mp e).1
 rw[List.getElem?_append_left ha];exact h
theorem Yh{M N:Z2}{a:Nat}{xs:List D}(h:Zd M a=some xs):Zd (M++N) a=some xs:=by
 unfold Zd at *
 have ha:a<M.length:=by
  cases e:M[a]? with
  | none=>rw[e] at h;cases h
  | some c=>exact(List.getElem?_eq_some_iff.mp e).1
 rw[List.getElem?_append_left ha];exact h
theorem Wh{M N:Z2}{a:Nat}{xs:List (Key×D)}(h:Zm M a=some xs):Zm (M++N) a=some xs:=by
 unfold Zm at *
 have ha:a<M.length:=by
  cases e:M[a]? with
  | none=>rw[e] at h;cases h
  | some c=>exact(List.getElem?_eq_some_iff.mp e).1
 rw[List.getElem?_append_left ha];exact h
theorem Z54(M:Z2)(c:Cell)(N:Z2):(M++c::N)[M.length]?=some c:=by simp
theorem Z47(M N:Z2)(k:Nat):(M++N)[M.length+k]?=N[k]?:=by rw[List.getElem?_append_right (by omega)];congr 1;omega
theorem Z9(M:Z2)(xs:List D)(N:Z2):Z7 (M++ .lst xs::N) M.length=some xs:=by unfold Z7;rw[Z54]
theorem Za(M:Z2)(xs:List D)(N:Z2):Zd (M++ .lst xs::N) M.length=some xs:=by unfold Zd;rw[Z54]
theorem Wd(M:Z2)(xs:List (Key×D))(N:Z2):Zm (M++ .dct xs::N) M.length=some xs:=by unfold Zm;rw[Z54]
theorem Yw(M N:Z2)(k:Nat):Z7 (M++N) (M.length+k)=Z7 N k:=by unfold Z7;rw[Z47]
theorem Xp(M N:Z2)(k:Nat):Zd (M++N) (M.length+k)=Zd N k:=by unfold Zd;rw[Z47]
theorem Xg(M:Z2)(c d:Cell)(N:Z2):(M++c::N).set M.length d=M++d::N:=by
 rw[List.set_append_right _ _ (Nat.le_refl _)];simp
theorem Wn(M N:Z2)(k:Nat)(d:Cell):(M++N).set (M.length+k) d=M++N.set k d:=by
 rw[List.set_append_right _ _ (by omega)];congr 2;omega
theorem Z0{M:Z2}{n:Nat}{xs:List D}(h:Zd M n=some xs):Z7 M n=some xs:=Zp7 h
theorem J9{M:Z2}{a b:Nat}{c:Cell}(h:b≠a):Zd (M.set b c) a=Zd M a:=by unfold Zd;rw[List.getElem?_set_ne h]
theorem Nw{M:Z2}{a b:Nat}{c:Cell}(h:b≠a):Zm (M.set b c) a=Zm M a:=by unfold Zm;rw[List.getElem?_set_ne h]
theorem Xn{M:Z2}{n:Nat}{xs:List (Key×D)}(h:Zm M n=some xs):n<M.length:=by
 unfold Zm at h
 cases e:M[n]? with
 | none=>rw[e] at h;cases h
 | some c=>exact(List.getElem?_eq_some_iff.mp e).1
theorem V6{lo:Int}{n i:Nat}(h:i<n):(Qq lo n)[i]?=some (.int (lo+i)):=by
 unfold Qq;rw[List.getElem?_map,List.getElem?_range h];rfl
theorem Y2(lo:Int)(n:Nat):(Qq lo n).length=n:=by unfold Qq;simp
theorem X3{own:Own}{xs:List D}{tg:List Nat}{body:DS}{R:DEnds}{σ:DEnv}{M:Z2}(I:Nat→DEnv→Z2→Prop)(h0:I 0 σ M)(hs:∀i σ M,i≤xs.length→I i σ M→O2 own xs M)
  (step:∀(i:Nat) (d:D) σ M (C:DEnv→Z2→Prop),xs[i]?=some d→I i σ M→(∀σ2 M2,I (i+1) σ2 M2→C σ2 M2)→tgD tg d σ fun σ'=>body {nx:=C,rt:=R.rt,bk:=R.nx,ct:=C} σ' M)
  (fin:∀σ M,I xs.length σ M→R.nx σ M):forD own xs tg body xs R σ M:=by
 have key:∀(j:Nat) σ M,j≤xs.length→I (xs.length - j) σ M→forD own xs tg body (xs.drop (xs.length - j)) R σ M:=by
  intro j
  induction j with
  | zero=>
   intro σ M _ h
   rw[Nat.sub_zero] at h ⊢
   rw[List.drop_length]
   exact⟨hs _ σ M (Nat.le_refl _) h,fin σ M h⟩
  | succ j ih=>
   intro σ M hj h
   have hi:xs.length - (j+1)<xs.length:=by omega
   have e:xs.length - (j+1)+1=xs.length - j:=by omega
   rw[List.drop_eq_getElem_cons hi]
   refine⟨hs _ σ M (by omega) h,step _ _ σ M _ (List.getElem?_eq_getElem hi) h fun σ2 M2 h2=>?_⟩
   rw[e] at h2 ⊢
   exact ih σ2 M2 (by omega) h2
 have:=key xs.length σ M (Nat.le_refl _) (by rw[Nat.sub_self];exact h0)
 rw[Nat.sub_self] at this
 exact this
theorem Rk{lo:Int}{n:Nat}{tg:List Nat}{body:DS}{R:DEnds}{σ:DEnv}{M:Z2}(I:Nat→DEnv→Z2→Prop)(h0:I 0 σ M)
  (step:∀(i:Nat) σ M (C:DEnv→Z2→Prop),i<n→I i σ M→(∀σ2 M2,I (i+1) σ2 M2→C σ2 M2)→tgD tg (.int (lo+i)) σ fun σ'=>body {nx:=C,rt:=R.rt,bk:=R.nx,ct:=C} σ' M)
  (fin:∀σ M,I n σ M→R.nx σ M):forD .no (Qq lo n) tg body (Qq lo n) R σ M:=by
 refine X3 I h0 (fun _ _ _ _ _=>trivial) (fun i d σ M C hd hI hC=>?_) (fun σ M h=>fin σ M (by rw[Y2] at h;exact h))
 have hi:i<n:=by
  have:=(List.getElem?_eq_some_iff.mp hd).1
  rwa[Y2] at this
 rw[V6 hi] at hd
 cases hd
 exact step i σ M C hi hI hC
theorem Xa{own:Own}{xs:List D}{tg:List Nat}{cd:DT}{el:DE}{z:Nat}{Q:Z2→Prop}{σ:DEnv}{M:Z2}(I:Nat→DEnv→Z2→Prop)(h0:I 0 σ M)(hs:∀i σ M,i≤xs.length→I i σ M→O2 own xs M)
  (step:∀(i:Nat) (d:D) σ M (C:DEnv→Z2→Prop),xs[i]?=some d→I i σ M→(∀σ2 M2,I (i+1) σ2 M2→C σ2 M2)→tgD tg d σ fun σ'=>cd σ' M fun b M1=>if b=true then
   el σ' M1 fun y M2=>∃acc,Zd M2 z=some acc∧acc.length<sizeLine∧C σ' (M2.set z (.lst (acc++[y]))) else C σ' M1)
  (fin:∀σ M,I xs.length σ M→Q M):Jq own xs tg cd el z xs σ M Q:=by
 have key:∀(j:Nat) σ M,j≤xs.length→I (xs.length - j) σ M→Jq own xs tg cd el z (xs.drop (xs.length - j)) σ M Q:=by
  intro j
  induction j with
  | zero=>
   intro σ M _ h
   rw[Nat.sub_zero] at h ⊢
   rw[List.drop_length]
   exact⟨hs _ σ M (Nat.le_refl _) h,fin σ M h⟩
  | succ j ih=>
   intro σ M hj h
   have hi:xs.length - (j+1)<xs.length:=by omega
   have e:xs.length - (j+1)+1=xs.length - j:=by omega
   rw[List.drop_eq_getElem_cons hi]
   refine⟨hs _ σ M (by omega) h,step _ _ σ M (fun σ2 M2=>Jq own xs tg cd el z (xs.drop (xs.length - (j+1)+1)) σ2 M2 Q) (List.getElem?_eq_getElem hi) h fun σ2 M2 h2=>?_⟩
   rw[e] at h2 ⊢
   exact ih σ2 M2 (by omega) h2
 have:=key xs.length σ M (Nat.le_refl _) (by rw[Nat.sub_self];exact h0)
 rw[Nat.sub_self] at this
 exact this
theorem mulR{i j:Int}(h1:-(2 ^ 64)<j)(h2:j<2 ^ 64):IntMulOk i j:=CMul.ok (.inr ⟨h1,h2⟩)
theorem mulL{i j:Int}(h1:-(2 ^ 64)<i)(h2:i<2 ^ 64):IntMulOk i j:=CMul.ok (.inl ⟨h1,h2⟩)
theorem Xm{i j:Int}(h1:0<j)(h2:j<2 ^ 64):Ev i j:=by
 refine⟨by omega,?_⟩
 have h3:j.natAbs<2 ^ 64:=by omega
 exact Nat.lt_trans (Cr h3 (by decide)) (by decide)
theorem Z1{n:Nat}(h:n≤16000000):n≤sizeLine:=by rw[sizeLine_eq];omega
theorem Z8{n:Nat}(h:n≤16000000):n<sizeLine:=by rw[sizeLine_eq];omega
section
variable{M:Z2}{Q:DK}{B:Bool→Prop}{i j:Int}{a b:Str}{p q:Bool}{xs ys:List D}{n m:Nat}{K:PySem.W.Frag}
theorem op_add_i:opD .add (.int i) (.int j) M Q=Q (.int (i+j)) M:=rfl
theorem op_add_s:opD .add (.str a) (.str b) M Q=(a.length+b.length≤sizeLine∧Q (.str (a++b)) M):=rfl
theorem op_add_t:opD .add (.tup xs) (.tup ys) M Q=(xs≠[]∧xs.length+ys.length≤sizeLine∧Q (.tup (xs++ys)) M):=rfl
theorem op_add_l:opD .add (.ref n) (.ref m) M Q=∃xs ys,Zd M n=some xs∧Zd M m=some ys∧xs.length+ys.length≤sizeLine∧Q (.ref M.length) (M++[.lst (xs++ys)]):=rfl
theorem op_sub_i:opD .sub (.int i) (.int j) M Q=Q (.int (i - j)) M:=rfl
theorem op_mul_i:opD .mul (.int i) (.int j) M Q=(IntMulOk i j∧Q (.int (i * j)) M):=rfl
theorem op_mul_l:opD .mul (.ref n) (.int i) M Q=∃xs,Zd M n=some xs∧0≤i∧i<2 ^ 62∧xs.length * i.toNat≤sizeLine∧Q (.ref M.length) (M++[.lst (List.replicate i.toNat xs).flatten]):=rfl
theorem op_fdiv_i:opD .fdiv (.int i) (.int j) M Q=(Ev i j∧Q (.int (qdiv i j)) M):=rfl
theorem op_mod_i:opD .mod (.int i) (.int j) M Q=(j≠0∧Q (.int (qmod i j)) M):=rfl
theorem op_pow_i:opD .pow (.int i) (.int j) M Q=(CPow i j∧Q (.int (i ^ j.toNat)) M):=rfl
theorem cm_lt_i:cmD M .lt (.int i) (.int j) B=B (decide (i<j)):=rfl
theorem cm_le_i:cmD M .le (.int i) (.int j) B=B (decide (i≤j)):=rfl
theorem cm_gt_i:cmD M .gt (.int i) (.int j) B=B (decide (j<i)):=rfl
theorem cm_eq{x y:D}:cmD M .eq x y B=eqD M x y B:=rfl
theorem cm_ne{x y:D}:cmD M .ne x y B=eqD M x y fun b=>B (!b):=rfl
theorem cm_in{x y:D}:cmD M .isin x y B=inQ M x y B:=rfl
theorem cm_notin{x y:D}:cmD M .notin x y B=inQ M x y fun b=>B (!b):=rfl
theorem cm_is_n:cmD M .is .non .non B=B true:=rfl
theorem cm_is_i:cmD M .is (.int i) .non B=B false:=rfl
theorem cm_is_s:cmD M .is (.str a) .non B=B false:=rfl
theorem cm_is_b:cmD M .is (.bl p) .non B=B false:=rfl
theorem cm_is_t:cmD M .is (.tup xs) .non B=B false:=rfl
theorem cm_is_r:cmD M .is (.ref n) .non B=B false:=rfl
theorem cm_isnot_n:cmD M .isnot .non .non B=B false:=rfl
theorem cm_isnot_i:cmD M .isnot (.int i) .non B=B true:=rfl
theorem cm_isnot_s:cmD M .isnot (.str a) .non B=B true:=rfl
theorem cm_isnot_b:cmD M .isnot (.bl p) .non B=B true:=rfl
theorem cm_isnot_t:cmD M .isnot (.tup xs) .non B=B true:=rfl
theorem cm_isnot_r:cmD M .isnot (.ref n) .non B=B true:=rfl
theorem eq_i:eqD M (.int i) (.int j) B=B (decide (i=j)):=rfl
theorem eq_s:eqD M (.str a) (.str b) B=B (decide (a=b)):=rfl
theorem eq_b:eqD M (.bl p) (.bl q) B=B (decide (p=q)):=rfl
theorem eq_nn:eqD M .non .non B=B true:=rfl
theorem eq_is:eqD M (.int i) (.str b) B=B false:=rfl
theorem eq_si:eqD M (.str b) (.int i) B=B false:=rfl
theorem tru_b:truD M (.bl p) B=B p:=rfl
theorem tru_i:truD M (.int i) B=B (i !=0):=rfl
theorem tru_n:truD M .non B=B false:=rfl
theorem tru_t:truD M (.tup xs) B=B (!xs.isEmpty):=rfl
theorem ix_t{F:D→Prop}:ixD M (.tup xs) (.int i) F=∃d,atI xs i=some d∧F d:=rfl
theorem ix_g{F:D→Prop}:ixD M (.gtup xs) (.int i) F=∃d,atI xs i=some d∧F d:=rfl
theorem ix_s{F:D→Prop}:ixD M (.str a) (.int i) F=(a.length≤sizeLine∧∃c,atI a.cps.toList i=some c∧F (.str ⟨#[c]⟩)):=rfl
theorem ix_l{F:D→Prop}{k:Nat}(h:Z7 M n=some xs){d:D}(hd:xs[k]?=some d)(hF:F d):ixD M (.ref n) (.int k) F:= .inl ⟨xs,k,d,rfl,h,Oc hd,hF⟩
theorem Zp6{F:D→Prop}(h:Z7 M n=some xs){d:D}(hd:atI xs i=some d)(hF:F d):ixD M (.ref n) (.int i) F:= .inl ⟨xs,i,d,rfl,h,hd,hF⟩
theorem ix_d{F:D→Prop}{kvs:List (Key×D)}{k:D}{y:Key}(h:Zm M n=some kvs)(hk:keyD k=some y){d:D}(hd:valD kvs y=some d)(hF:F d):ixD M (.ref n) k F:= .inr ⟨kvs,y,d,Zv6 h,hk,hd,hF⟩
theorem ix_f{F:D→Prop}{kvs:List (Key×D)}{k:D}{y:Key}(h:M[n]?=some (.fdc kvs))(hk:keyD k=some y){d:D}(hd:valD kvs y=some d)(hF:F d):ixD M (.ref n) k F:= .inr ⟨kvs,y,d,by unfold Pu;rw[h],hk,hd,hF⟩
theorem sl_s{lo hi:Option Int}:slD (.str a) lo hi M Q=(a.length≤sizeLine∧Q (.str (Txt.slice a lo hi)) M):=rfl
theorem sl_t{lo hi:Option Int}:slD (.tup xs) lo hi M Q=(¬(HT.sIx xs.length 0 lo=0∧HT.sIx xs.length xs.length hi=xs.length)∧Q (.tup (cutD xs lo hi)) M):=rfl
theorem sl_l{lo hi:Option Int}:slD (.ref n) lo hi M Q=∃xs,Z7 M n=some xs∧Q (.ref M.length) (M++[.lst (cutD xs lo hi)]):=rfl
noncomputable def tyNon:Ty→Bool:=fun _=>false
noncomputable def tyBl:Ty→Bool
 | .bool=>true | .int=>true | _=>false
noncomputable def tyInt:Ty→Bool
 | .int=>true | _=>false
noncomputable def tyStr:Ty→Bool
 | .str=>true | _=>false
noncomputable def tyTup:Ty→Bool
 | .tuple=>true | _=>false
noncomputable def tyLst:Ty→Bool
 | .list=>true | _=>false
noncomputable def tyDct:Ty→Bool
 | .dict=>true | _=>false
theorem Qb{d:D}{t:Ty}{s:String}{v:Bool}(hd:∀e C dx r,d≠ .exn e C dx r)(h1:tyD M d=some s)(h2:PySem.W.kitOne K (.type s) (.type (Xd t))=some v):isD K M d (.ty (Xd t)) B=B v:=by
 have:isD K M d (.ty (Xd t)) B=∃t' b,tyD M d=some t'∧PySem.W.kitOne K (.type t') (.type (Xd t))=some b∧B b:=by
  cases d<;>first | rfl | exact absurd rfl (hd _ _ _ _)
 rw[this]
 apply propext
 constructor
 ·rintro⟨t',b,e1,e2,h⟩
  rw[h1] at e1
  cases e1
  rw[h2] at e2
  cases e2
  exact h
 ·intro h;exact⟨s,v,h1,h2,h⟩
theorem is_non{t:Ty}:isD K M .non (.ty (Xd t)) B=B (tyNon t):=Qb (fun _ _ _ _ h=>nomatch h) rfl (by cases t<;>rfl)
theorem is_bl{t:Ty}:isD K M (.bl p) (.ty (Xd t)) B=B (tyBl t):=Qb (fun _ _ _ _ h=>nomatch h) rfl (by cases t<;>rfl)
theorem is_int{t:Ty}:isD K M (.int i) (.ty (Xd t)) B=B (tyInt t):=Qb (fun _ _ _ _ h=>nomatch h) rfl (by cases t<;>rfl)
theorem is_str{t:Ty}:isD K M (.str a) (.ty (Xd t)) B=B (tyStr t):=Qb (fun _ _ _ _ h=>nomatch h) rfl (by cases t<;>rfl)
theorem is_tup{t:Ty}:isD K M (.tup xs) (.ty (Xd t)) B=B (tyTup t):=Qb (fun _ _ _ _ h=>nomatch h) rfl (by cases t<;>rfl)
theorem Zk5{t:Ty}(h:Zd M n=some xs):isD K M (.ref n) (.ty (Xd t)) B=B (tyLst t):=Qb (s:="list") (fun _ _ _ _ h=>nomatch h) (by simp only[tyD,Wi h]) (by cases t<;>rfl)
theorem Y46{t:Ty}{kvs:List (Key×D)}(h:Zm M n=some kvs):isD K M (.ref n) (.ty (Xd t)) B=B (tyDct t):=Qb (s:="dict") (fun _ _ _ _ h=>nomatch h) (by simp only[tyD,Wm h]) (by cases t<;>rfl)
theorem Y8(h:Z7 M n=some xs)(hq:Q (.int xs.length) M):bfD K .len [.ref n] M Q:= .inl ⟨xs,h,hq⟩
theorem bf_len_t:bfD K .len [.tup xs] M Q=Q (.int xs.length) M:=rfl
theorem bf_len_s:bfD K .len [.str a] M Q=(a.length≤sizeLine∧Q (.int a.length) M):=rfl
theorem bf_is{d c:D}:bfD K .isinst [d,c] M Q=isD K M d c fun b=>Q (.bl b) M:=rfl
theorem bf_min:bfD K .min2 [.int i,.int j] M Q=Q (.int (if j<i then j else i)) M:=rfl
theorem bf_max:bfD K .max2 [.int i,.int j] M Q=Q (.int (if j >i then j else i)) M:=rfl
theorem bf_list{d:D}:bfD K .list1 [d] M Q=∃xs,Z65 M d=some xs∧Q (.ref M.length) (M++[.lst xs]):=rfl
theorem bf_sortedL:bfD K .sortedL [.ref n] M Q=∃ns:List Int,Z7 M n=some (ns.map .int)∧ns.length<64∧∀ms:List Int,ms.Perm ns→ms.Pairwise (·≤·)→Q (.ref M.length) (M++[.lst (ms.map .int)]):=rfl
theorem bf_sorted:bfD K .sorted1 [.ref n] M Q=∃(kvs:List (Key×D)) (ns:List Int),Zm M n=some kvs∧kvs.map (·.1)=ns.map Sum.inl∧ns.length<64∧∀ms:List Int,ms.Perm ns→ms.Pairwise (·≤·)→Q (.ref M.length) (M++[.lst (ms.map .int)]):=rfl
theorem on_ref{F:Nat→Prop}:Sr (.ref n) F=F n:=rfl
theorem mt_append_r{d:D}:mtD .append (.ref n) [d] M Q=∃xs,Zd M n=some xs∧xs.length<sizeLine∧Q .non (M.set n (.lst (xs++[d]))):=rfl
theorem mt_clearD_r:mtD .clearD (.ref n) [] M Q=∃kvs,Zm M n=some kvs∧Q .non (M.set n (.dct [])):=rfl
theorem mt_get2_r{k z:D}:mtD .get2 (.ref n) [k,z] M Q=∃kvs y,Zm M n=some kvs∧keyD k=some y∧Q ((valD kvs y).getD z) M:=rfl
theorem mt_pop_r:mtD .pop0 (.ref n) [] M Q=∃xs d,Zd M n=some xs∧xs[xs.length - 1]?=some d∧Q d (M.set n (.lst xs.dropLast)):=rfl
theorem mt_index_r{d:D}:mtD .index1 (.ref n) [d] M Q=∃xs k z,Z7 M n=some xs∧Yq d=true∧xs.all Yq=true∧xs[k]?=some z∧eqF z d=true∧(∀(j:Nat) u,j<k→xs[j]?=some u→eqF u d=false)∧Q (.int k) M:=rfl
theorem mt_extend_r{m:Nat}:mtD .extend (.ref n) [.ref m] M Q=∃xs ys,Zd M n=some xs∧Zd M m=some ys∧xs.length+ys.length≤sizeLine∧Q .non (M.set n (.lst (xs++ys))):=rfl
theorem mk_index:mtK .index1 (.ref n) M=((Z7 M n).isSome=true):=rfl
theorem mk_extend:mtK .extend (.ref n) M=((Z7 M n).isSome=true):=rfl
theorem bf_min1:bfD K .min1 [.ref n] M Q=∃ps:List (Int×Int),Z7 M n=some (ps.map pD)∧0<ps.length∧∀m,m∈ps→(∀q∈ps,MP.lex q m=false)→Q (pD m) M:=rfl
theorem mk_append:mtK .append (.ref n) M=((Z7 M n).isSome=true):=rfl
theorem mk_pop:mtK .pop0 (.ref n) M=((Z7 M n).isSome=true):=rfl
theorem mk_clearD:mtK .clearD (.ref n) M=((Zm M n).isSome=true):=rfl
theorem mk_get2:mtK .get2 (.ref n) M=((Zm M n).isSome=true):=rfl
theorem tg_one{k:Nat}{d:D}{σ:DEnv}{F:DEnv→Prop}:tgD [k] d σ F=F (σ.set k (some d)):=by cases d<;>rfl
theorem tg_two{k l:Nat}{d e:D}{σ:DEnv}{F:DEnv→Prop}:tgD [k,l] (.tup [d,e]) σ F=F ((σ.set k (some d)).set l (some e)):=by
 show([d,e].length=[k,l].length∧F _)=_
 simp
theorem it_r{R:Own→List D→Prop}:itD M (.ref n) R=∃xs,Z7 M n=some xs∧R (.lst n) xs:=rfl
theorem it_t{R:Own→List D→Prop}:itD M (.tup xs) R=R .no xs:=rfl
theorem it_g{R:Own→List D→Prop}:itD M (.gtup xs) R=R .no xs:=rfl
theorem key_i:keyD (.int i)=some (.inl i):=rfl
theorem key_s:keyD (.str a)=some (.inr a):=rfl
theorem in_ss:inQ M (.str a) (.str b) B=B (!(Builtin.Str.occurrences b a 0 b.length 1).isEmpty):=rfl
end
theorem Zi{α:Type}{o:Option α}{x:α}(h:o=some x):o.isSome=true:=by rw[h];rfl
theorem Prg.up{P:Program}{w:World}{K:PySem.W.Frag}{mg:Str→Option Value}{base:Heap}{c:Cfg}{FN GN BN:List Str}{lv lv':Nat}(Pr:Prg P w K mg base c FN GN BN lv)(h:lv≤lv'):Prg P w K mg base c FN GN BN lv' where
 hK:=Pr.hK
 fns:=fun m y sp e1 e2=>by
  obtain⟨kk,f,fd,ps,ds,dvs,dD,sp0,F,hk,r⟩:=Pr.fns m y sp e1 e2
  exact⟨kk,f,fd,ps,ds,dvs,dD,sp0,F,Nat.le_trans hk h,r⟩
 flen:=Pr.flen
 glb:=Pr.glb
 blt:=Pr.blt
theorem Y19{α:Type}{P:List α→Prop}(h:P [])(l:List α)(e:l.length=0):P l:=by
 cases l with
 | nil=>exact h
 | cons _ _=>cases e
theorem Ff{α:Type}{n:Nat}{P:List α→Prop}(h:∀a l,l.length=n→P (a::l))(l:List α)(e:l.length=n+1):P l:=by
 cases l with
 | nil=>cases e
 | cons a r=>exact h a r (Nat.succ.inj e)
theorem W8{α:Type}{P:List α→Prop}(h:∀a,P [a]):∀l:List α,l.length=1→P l:=Ff fun a=>Y19 (h a)
theorem Vo{α:Type}{P:List α→Prop}(h:∀a b,P [a,b]):∀l:List α,l.length=2→P l:=Ff fun a=>W8 (P:=fun l=>P (a::l)) (h a)
theorem Qy{α:Type}{P:List α→Prop}(h:∀a b c,P [a,b,c]):∀l:List α,l.length=3→P l:=Ff fun a=>Vo (P:=fun l=>P (a::l)) (h a)
theorem Zj0{α:Type}{P:List α→Prop}(h:∀a b c d,P [a,b,c,d]):∀l:List α,l.length=4→P l:=Ff fun a=>Qy (P:=fun l=>P (a::l)) (h a)
theorem Z80{α:Type}{P:α→Prop}:∀x∈([]:List α),P x:=fun _ h=>absurd h List.not_mem_nil
theorem all_cons{α:Type}{P:α→Prop}{a:α}{l:List α}(h:P a)(t:∀x∈l,P x):∀x∈a::l,P x:=fun x hx=>(List.mem_cons.mp hx).elim (fun e=>e ▸ h) (t x)
noncomputable def Gn:List (Str×NameKind):=[("_law_rings",.cell),("_law_head",.cell),("_law_around",.local),("min",.globalImplicit)]
noncomputable abbrev inN:List Str:=["_law_rings","_law_head","_law_around"]
def minW(σ:DEnv)(M:Z2)(Q:DK):Prop:=∃(n r:Nat) (ns:List Int) (kvs:List (Key×D)) (fl:Int→Nat),σ[2]?=some (some (.ref n))∧σ[0]?=some (some (.ref r))∧Z7 M n=some (ns.map .int)∧0<ns.length∧Pu M r=some kvs∧
 (∀x∈ns,∃l ys,valD kvs (.inl x)=some (.ref l)∧Z7 M l=some ys∧ys.length=fl x)∧∀m∈ns,(∀y∈ns,fl m≤fl y)→Q (.int m) M
theorem RS.over{w:Vw}{M:Z2}{H2:Hp}(R:RS w M)(old:∀b o,Tb o=false→w.H b=some o→H2 b=some o)(imm:∀b o,w.H b=some o→Imm o=true→H2 b=some o)(tab:Co w.K H2):Ext w {w with H:=H2}∧RS {w with H:=H2} M:=by
 have x:Ext w {w with H:=H2}:=⟨rfl,Nat.le_refl _,fun _ _=>rfl,imm⟩
 refine⟨x,R.len,R.inj,fun i c e=>?_,tab⟩
 refine(R.cell i c e).stay x fun hm=>?_
 obtain⟨o,ho⟩:=(R.cell i c e).some hm
 show H2 (w.μ i)=w.H (w.μ i)
 rw[ho]
 exact old _ _ (Ps (R.cell i c e) hm ho) ho
theorem Y24{env:Env}{cc:Addr}(e:cellOf env "_law_rings"=(pure cc:Sem Addr)):closureFor Yo env=(pure [(("_law_rings":Str),cc)]:Sem (List (Str×Addr))):=by
 unfold closureFor
 simp[Yo,e]
theorem fnK{P:Program}{w:World}{K:PySem.W.Frag}{mg:Str→Option Value}{base:Heap}{c:Cfg}{FN GN BN:List Str}{lv:Nat}{st s1 s2:Stmt}{f c0 T:Addr}{fd:FuncData}{p1 p2 p3 p4 p5 p6 pos q1 q2 q3 q4 q5:Pos}{S1 S2:S}
  (Pr:Prg P w K mg base c FN GN BN lv) (KX:K.In base) (G0:base.Ns mainGlobals mg) (B:Bs K mg base) (ht:PySem.W.tabIn K "_law_inmost"=some (c0,T)) (hmf:mg "_law_inmost"=some (.ref f)) (F:Fun K "_law_inmost" "_law_inmost" st f fd)
  (hst:Z5 st=[s1,s2,.Return (some (.Call (.Name "min" q1) [.Name "_law_around" q2] [{arg:=some "key",value:= .Lambda (T1 p1) (Vv p2 p3 p4 p5 p6) Yo pos,pos:=q3}] q4)) q5]) (hnm:(Z3 st).names=Gn)
  (S:FnScope inN ["_law_rings","_law_head"] (Z3 st)) (hc1:chkS (ck0 inN st FN GN BN) S1 s1=true) (hc2:chkS (ck0 inN st FN GN BN) S2 s2=true) (hmin:("min":Str)∈BN) (hlen:("len":Str)∈BN) {sp:DSp} (hl:∀ds M Q Z,sp ds M Q Z→ds.length=2)
  (hb:∀ds M Q Z,sp ds M Q Z→tss c noX (.cons S1 (.cons S2 .nil)) {nx:=fun σ M=>minW σ M Q,rt:=Q} (start0 inN ds) M):FnOk P w K mg base (CX1 P w) (lv+1) f fd ["_law_rings","_law_head"] (spF K sp):=by
 obtain⟨oc,od,dV,kV,doc,pm,an,cdv,ct,osl,rfl,lk,hcd⟩:=F.ex
 have hcode:cdv= .ref c0:=PySem.W.law_code KX G0 ht hmf (KX _ _ lk) rfl
 subst hcode
 refine FnOk.cx (Zz8 (CX:=CX0) lk hcd S (fun vs H Q E h=>?_) fun A outer s H vs Q E hr h=>?_)
 ·obtain⟨w,ds,M,QD,Z,_,_,_,r,h,_⟩:=h
  rw[r.length];exact hl _ _ _ _ h
 obtain⟨w',ds,M,QD,Z,hK',rfl,R,r,h,a,xk⟩:=h
 have G:Good c (ck0 inN st FN GN BN) noX w' (cxOf CX0 P w K mg base inN "_law_inmost" (Z3 st) f (.ref c0) A outer s w'.H E).nox:=
  {hK:=Pr.hK.symm
   wK:=hK'.trans Pr.hK.symm
   N:=rfl
   nd:=S.nd
   sc:=rfl
   calm:=fun _=>rfl
   units:=hr.units
   fns:=fun _ f x sp h1 h2=>by
    obtain⟨kk,f,fd,ps,ds,dvs,dD,sp0,F,hk,h⟩:=Pr.fns f x sp h1 h2
    exact⟨kk,f,fd,ps,ds,dvs,dD,sp0,F,hr.mono hk,h⟩
   flen:=Pr.flen
   glb:=Pr.glb
   blt:=Pr.blt
   exc:=⟨E0,fun _ _ _ _ _ _ _ h=>by
    obtain⟨_,_,_,_,_,_,_,_,_,_,_,_,_,_,_,h⟩:=h
    exact h.elim,fun cls dd H' h=>by
    obtain⟨_,_,_,_,_,_,_,_,_,_,_,_,_,h⟩:=h
    exact h.elim⟩
   stk:=fun _=>⟨rfl,rfl⟩
   po:=fun _=>PassesOwn.never
   fnc:=fun _ _=>rfl
   fno:=fun _ h=>by cases h}
 have kd:∀(x:Str) k,Gn.lookup x=some k→(envOfC "_law_inmost" (Z3 st) s.heap.objs.size f (.ref c0)).kindOf x=some k:=fun x k e=>by
  show(Z3 st).names.lookup x=some k
  rw[hnm];exact e
 have cls:(envOfC "_law_inmost" (Z3 st) s.heap.objs.size f (.ref c0)).cells=cellsFrom (s.heap.objs.size+1) Gn []:=by
  show cellsFrom (s.heap.objs.size+1) (Z3 st).names []=_
  rw[hnm]
 have hcl:closureFor Yo (envOfC "_law_inmost" (Z3 st) s.heap.objs.size f (.ref c0))=(pure [(("_law_rings":Str),s.heap.objs.size+1)]:Sem (List (Str×Addr))):=by
  have e:cellOf (envOfC "_law_inmost" (Z3 st) s.heap.objs.size f (.ref c0)) "_law_rings"=(pure (s.heap.objs.size+1):Sem Addr):=by
   unfold cellOf
   rw[cls]
   rfl
  exact Y24 e
 have pm:=Zm2 (X:=(cxOf CX0 P w K mg base inN "_law_inmost" (Z3 st) f (.ref c0) A outer s w'.H E).nox) (c0:=c0) (T:=T) (cc:=s.heap.objs.size+1) (p1:=p1) (p2:=p2) (p3:=p3) (p4:=p4) (p5:=p5) (p6:=p6) (pos:=pos) (q1:=q1) (q2:=q2) (q3:=q3) (q4:=q4) (i0:=0) (i2:=2)
  B rfl rfl ht hcl (by rw[show(cxOf CX0 P w K mg base inN "_law_inmost" (Z3 st) f (.ref c0) A outer s w'.H E).nox.env.cells=_ from cls];rfl) rfl hr.depth (kd "min" _ rfl) (Pr.blt _ hmin) (Pr.blt _ hlen) rfl rfl (.inr (.inl (kd "_law_rings" _ rfl))) (.inl (kd "_law_around" _ rfl)) (kd "_law_rings" _ rfl)
 have body:=Oa (Z71 c S1 _ _ w' _ _ G hc1) (Oa (Z71 c S2 _ _ w' _ _ G hc2) (Zq6 (Zk1 (pos:=q5) pm)))
 rw[←hst] at body
 refine⟨_,body.nox,?_⟩
 have q:=hb _ _ _ _ h
 refine Q7 (w:=w') ⟨rfl,Ext.refl w',R,Nf r⟩ q ?_ a (fun σ' w2 σD' M' x' r' e' q'=>q'.elim) fun σ' w2 σD' M' x' r' e' q'=>q'.elim
 intro σ2 w2 σD2 M2 x2 r2 e2 q2'
 refine Q7 (w:=w2) ⟨rfl,x2,r2,e2⟩ q2' ?_ (a.ext x2) (fun σ' w2 σD' M' x' r' e' q'=>q'.elim) fun σ' w2 σD' M' x' r' e' q'=>q'.elim
 intro σ3 w3 σD3 M3 x3 r3 e3 q3'
 obtain⟨n,rr,ns,kvs,fl,d1,d2,g1,g2,g3,g4,g5⟩:=q3'
 have hK3:w3.K=K:=by rw[x3.K,x2.K,hK']
 obtain⟨v1,y1,z1⟩:=e3.2 2 _ d1
 obtain⟨v0,y0,z0⟩:=e3.2 0 _ d2
 obtain⟨_,rfl⟩:=Zh.mp z1
 obtain⟨_,rfl⟩:=Zh.mp z0
 obtain⟨_,vs,l1,l2,_⟩:=r3.listL g1
 cases Q3 l2
 obtain⟨vk,f1,f2⟩:=r3.dictF g3
 obtain⟨ps,hP,tr⟩:=r3.tab c0 T (by rw[hK3];exact ht)
 rw[hK3] at l1
 refine⟨_,_,ns,vk,fl,ps,y1,y0,l1,g2,f1,fun x hx=>?_,hP,tr,fun m hm hmin H1 k1 k2=>?_⟩
 ·obtain⟨l,ys,a1,a2,a3⟩:=g4 x hx
  rcases f2.val (.inl x) with⟨b1,b2⟩ | ⟨d,v,b1,b2,b3⟩
  ·rw[a1] at b1;cases b1
  ·rw[a1] at b1
   cases b1
   obtain⟨_,rfl⟩:=Zh.mp b3
   obtain⟨_,us,l3,l4,_⟩:=r3.listL a2
   rw[hK3] at l3
   exact⟨_,us,b2,l3,by rw[l4.length];exact a3⟩
 ·have nT:∀b o,w3.H b=some o→(∀qs,o≠ .tbl qs)→b≠T:=fun b o e h z=>by rw[z,hP] at e;cases e;exact h _ rfl
  obtain⟨x4,r4⟩:=RS.over (H2:=H1) r3 (fun b o t e=>k1 b o (nT b o e fun qs z=>by rw[z] at t;cases t) e) (fun b o e t=>k1 b o (nT b o e fun qs z=>by rw[z] at t;cases t) e) fun c' P' e=>by
   rw[hK3,ht] at e
   cases e
   exact k2
  exact a _ {w3 with H:=H1} _ M3 ((x2.trans x3).trans x4) r4 (Ze.mpr rfl) (g5 m hm hmin)
end U
namespace GT
inductive Av (g:Nat→List Nat) (a:Nat):Nat→Prop
 | zero:a≠0→Av g a 0
 | step {x y:Nat}:Av g a x→y∈g x→y≠a→Av g a y
structure Num(g:Nat→List Nat)(n:Nat):Prop where
 pos:0<n
 cl:∀x,x<n→∀y∈g x,y<n
 up:∀k,k<n→k≠0→∃p,p<k∧k∈g p
theorem Av.ne{g:Nat→List Nat}{a x:Nat}(h:Av g a x):x≠a:=by
 cases h with
 | zero h=>exact fun e=>h e.symm
 | step _ _ h=>exact h
theorem Av.lt{g:Nat→List Nat}{n a x:Nat}(N:Num g n)(h:Av g a x):x<n:=by
 induction h with
 | zero _=>exact N.pos
 | step _ hy _ ih=>exact N.cl _ ih _ hy
theorem Y16{g:Nat→List Nat}{n a:Nat}(N:Num g n):∀k,k<n→k<a→Av g a k:=by
 intro k
 induction k using Nat.strongRecOn with
 | ind k ih=>
  intro hk ha
  by_cases h0:k=0
  ·subst h0;exact .zero (by omega)
  ·obtain⟨p,hp,he⟩:=N.up k hk h0
   exact .step (ih p hp (by omega) (by omega)) he (by omega)
theorem Q1{g:Nat→List Nat}{n a k:Nat}(N:Num g n)(hk:k<n)(h:¬Av g a k):a≤k:=by
 by_cases e:k<a
 ·exact absurd (Y16 N k hk e) h
 ·omega
theorem Zc9{g:Nat→List Nat}{k:Nat}:¬Av g 0 k:=by
 intro h
 have:∀x,Av g 0 x→False:=by
  intro x h
  induction h with
  | zero h=>exact h rfl
  | step _ _ _ ih=>exact ih
 exact this k h
theorem Oh{g:Nat→List Nat}{k:Nat}:¬Av g k k:=fun h=>h.ne rfl
theorem Z62{g:Nat→List Nat}{a m k:Nat}(h1:¬Av g m k)(h2:¬Av g a m):¬Av g a k:=by
 intro h
 have key:∀x,Av g a x→Av g m x:=by
  intro x h
  induction h with
  | zero h0=>
   by_cases e:m=0
   ·subst e;exact absurd (.zero h0) h2
   ·exact .zero e
  | step hx hy hn ih=>
   rename_i x y
   by_cases e:y=m
   ·subst e;exact absurd (.step hx hy hn) h2
   ·exact .step ih hy e
 exact h1 (key k h)
theorem N7{g:Nat→List Nat}{n a b k:Nat}(N:Num g n)(hk:k<n)(hab:a≠b)(h1:¬Av g a k)(h2:¬Av g b k):¬Av g a b∨¬Av g b a:=by
 by_cases ha:Av g a b
 ·by_cases hb:Av g b a
  ·exfalso
   have key:∀x,x<n→Av g a x∨Av g b x:=by
    intro x
    induction x using Nat.strongRecOn with
    | ind x ih=>
     intro hx
     by_cases h0:x=0
     ·subst h0
      by_cases e:a=0
      ·exact .inr (.zero (by omega))
      ·exact .inl (.zero e)
     ·obtain⟨p,hp,he⟩:=N.up x hx h0
      rcases ih p hp (by omega) with q | q
      ·by_cases e:x=a
       ·subst e;exact .inr hb
       ·exact .inl (.step q he e)
      ·by_cases e:x=b
       ·subst e;exact .inl ha
       ·exact .inr (.step q he e)
   rcases key k hk with q | q
   ·exact h1 q
   ·exact h2 q
  ·exact .inr hb
 ·exact .inl ha
structure Must(g:Nat→List Nat)(k m:Nat):Prop where
 ne:m≠k
 dom:¬Av g m k
 last:∀d,d≠k→¬Av g d k→d≤m
theorem Must.lt{g:Nat→List Nat}{n k m:Nat}(N:Num g n)(hk:k<n)(h:Must g k m):m<k:=by
 have:=Q1 N hk h.dom
 have:=h.ne
 omega
theorem Must.step{g:Nat→List Nat}{n k m a:Nat}(N:Num g n)(hk:k<n)(h:Must g k m)(ha:a<k):Av g a k↔Av g a m:=by
 have hm:=h.lt N hk
 constructor
 ·intro q
  by_cases e:Av g a m
  ·exact e
  ·exact absurd q (Z62 h.dom e)
 ·intro q
  by_cases e:Av g a k
  ·exact e
  ·have le:=h.last a (by omega) e
   by_cases am:a=m
   ·subst am;exact absurd q Oh
   ·rcases N7 N hk am e h.dom with c | c
    ·exact absurd q c
    ·have:=Q1 N (by omega) c
     omega
structure Wk(g:Nat→List Nat)(n:Nat)(B:List Nat)(T:List (Nat×Nat))(F:List Nat):Prop where
 bn:B.Nodup
 bl:∀x∈B,x<n
 z:0∈B
 mem:∀x,x∈B↔(∃s,(x,s)∈T)∨x∈F
 nd:(T.map (·.1)++F).Nodup
 first:∀p,T[0]?=some p→p.1=0
 chain:∀(i:Nat) p q,T[i]?=some p→T[i+1]?=some q→q.1∈g p.1
 steps:∀a s,(a,s)∈T→s≤(g a).length∧∀j y,j<s→(g a)[j]?=some y→y∈B
 fin:∀d∈F,∀y∈g d,y∈B
 par:∀(i:Nat) x,F[i]?=some x→x≠0→∃p,x∈g p∧p∈B∧p∉F.take (i+1)
noncomputable def wkM(n:Nat)(B:List Nat)(T:List (Nat×Nat)):Nat:=3 * (n - B.length)+(T.map fun p=>3 - p.2).sum
theorem Wk.begin(g:Nat→List Nat){n:Nat}(hn:0<n):Wk g n [0] [(0,0)] [] where
 bn:=by simp
 bl:=by intro x h;simp at h;omega
 z:=by simp
 mem:=by intro x;simp
 nd:=by simp
 first:=by intro p h;simp at h;rw[←h]
 chain:=by intro i p q h1 h2;simp at h2
 steps:=by
  intro a s h
  simp at h
  obtain⟨rfl,rfl⟩:=h
  exact⟨Nat.zero_le _,fun j y h=>by omega⟩
 fin:=by intro d h;simp at h
 par:=by intro i x h;simp at h
theorem Vk{α:Type}(T:List α)(p:α):(T++[p])[T.length]?=some p:=by simp
theorem Yn{α:Type}{T:List α}{p q:α}{i:Nat}(h:T[i]?=some q):(T++[p])[i]?=some q:=by
 rw[List.getElem?_append_left (List.getElem?_eq_some_iff.mp h).1];exact h
theorem Yg{α:Type}{T:List α}{p q:α}{i:Nat}(h:(T++[p])[i]?=some q):T[i]?=some q∨(i=T.length∧q=p):=by
 by_cases hi:i<T.length
 ·rw[List.getElem?_append_left hi] at h;exact .inl h
 ·rw[List.getElem?_append_right (by omega)] at h
  have h':=(List.getElem?_eq_some_iff.mp h).1
  simp at h'
  have e:i - T.length=0:=by omega
  rw[e] at h
  simp at h
  exact .inr ⟨by omega,h.symm⟩
theorem Wk.close{g:Nat→List Nat}{n a s:Nat}{B F:List Nat}{T:List (Nat×Nat)}(w:Wk g n B (T++[(a,s)]) F)(hs:s=(g a).length):Wk g n B T (F++[a]) where
 bn:=w.bn
 bl:=w.bl
 z:=w.z
 mem:=by
  intro x
  rw[w.mem x]
  simp only[List.mem_append,List.mem_singleton,Prod.mk.injEq]
  constructor
  ·rintro(⟨s',h | ⟨rfl,rfl⟩⟩ | h)
   ·exact .inl ⟨s',h⟩
   ·exact .inr (.inr rfl)
   ·exact .inr (.inl h)
  ·rintro(⟨s',h⟩ | h | rfl)
   ·exact .inl ⟨s',.inl h⟩
   ·exact .inr h
   ·exact .inl ⟨s,.inr ⟨rfl,rfl⟩⟩
 nd:=by
  have h:=w.nd
  have p:(T.map (·.1)++(F++[a])).Perm ((T++[(a,s)]).map (·.1)++F):=by
   rw[List.map_append,List.append_assoc]
   exact List.Perm.append_left _ List.perm_append_comm
  exact p.nodup_iff.mpr h
 first:=fun p h=>w.first p (Yn h)
 chain:=fun i p q h1 h2=>w.chain i p q (Yn h1) (Yn h2)
 steps:=fun b t h=>w.steps b t (List.mem_append_left _ h)
 fin:=by
  intro d h y hy
  rcases List.mem_append.mp h with h | h
  ·exact w.fin d h y hy
  ·rw[List.mem_singleton] at h
   subst h
   obtain⟨j,hj⟩:=List.getElem?_of_mem hy
   exact(w.steps d s (by simp)).2 j y (by have:=(List.getElem?_eq_some_iff.mp hj).1;omega) hj
 par:=by
  intro i x h hx
  rcases Yg h with h | ⟨rfl,rfl⟩
  ·obtain⟨p,h1,h2,h3⟩:=w.par i x h hx
   refine⟨p,h1,h2,?_⟩
   have hi:=(List.getElem?_eq_some_iff.mp h).1
   rw[List.take_append_of_le_length (by omega)]
   exact h3
  ·have hl:T≠[]:=by
    rintro rfl
    exact hx (w.first (x,s) rfl)
   obtain⟨T',⟨b,t⟩,rfl⟩:∃T' p,T=T'++[p]:=⟨T.dropLast,T.getLast hl,(List.dropLast_concat_getLast hl).symm⟩
   refine⟨b,?_,?_,?_⟩
   ·exact w.chain T'.length (b,t) (x,s) (Yn (Vk _ _)) (by have:=Vk (T'++[(b,t)]) (x,s);simpa using this)
   ·rw[w.mem b];exact .inl ⟨t,by simp⟩
   ·rw[List.take_of_length_le (by simp)]
    intro hb
    have hnd:=w.nd
    simp only[List.map_append,List.map_cons,List.map_nil,List.append_assoc] at hnd
    have hnd:=(List.nodup_append.mp hnd).2.1
    simp only[List.singleton_append,List.nodup_cons,List.mem_cons,not_or] at hnd
    rcases List.mem_append.mp hb with h | h
    ·exact hnd.1.2 h
    ·simp at h;exact hnd.1.1 h
theorem Wk.pass{g:Nat→List Nat}{n a s y:Nat}{B F:List Nat}{T:List (Nat×Nat)}(w:Wk g n B (T++[(a,s)]) F)(hy:(g a)[s]?=some y)(hb:y∈B):Wk g n B (T++[(a,s+1)]) F where
 bn:=w.bn
 bl:=w.bl
 z:=w.z
 mem:=by
  intro x
  rw[w.mem x]
  simp only[List.mem_append,List.mem_singleton,Prod.mk.injEq]
  constructor
  ·rintro(⟨s',h | ⟨rfl,rfl⟩⟩ | h)
   ·exact .inl ⟨s',.inl h⟩
   ·exact .inl ⟨s'+1,.inr ⟨rfl,rfl⟩⟩
   ·exact .inr h
  ·rintro(⟨s',h | ⟨rfl,rfl⟩⟩ | h)
   ·exact .inl ⟨s',.inl h⟩
   ·exact .inl ⟨s,.inr ⟨rfl,rfl⟩⟩
   ·exact .inr h
 nd:=by have:=w.nd;simpa using this
 first:=by
  intro p h
  rcases Yg h with h | ⟨e,rfl⟩
  ·exact w.first p (Yn h)
  ·have:=w.first (a,s) (by rw[e];exact Vk _ _)
   exact this
 chain:=by
  intro i p q h1 h2
  rcases Yg h2 with h2 | ⟨e,rfl⟩
  ·rcases Yg h1 with h1 | ⟨e1,rfl⟩
   ·exact w.chain i p q (Yn h1) (Yn h2)
   ·have:=(List.getElem?_eq_some_iff.mp h2).1
    omega
  ·rcases Yg h1 with h1 | ⟨e1,rfl⟩
   ·exact w.chain i p (a,s) (Yn h1) (by rw[e];exact Vk _ _)
   ·omega
 steps:=by
  intro b t h
  rcases List.mem_append.mp h with h | h
  ·exact w.steps b t (List.mem_append_left _ h)
  ·rw[List.mem_singleton] at h
   cases h
   obtain⟨h1,h2⟩:=w.steps a s (by simp)
   refine⟨(List.getElem?_eq_some_iff.mp hy).1,fun j z hj hz=>?_⟩
   by_cases e:j=s
   ·subst e;rw[hy] at hz;cases hz;exact hb
   ·exact h2 j z (by omega) hz
 fin:=w.fin
 par:=w.par
theorem Wk.open{g:Nat→List Nat}{n a s y:Nat}{B F:List Nat}{T:List (Nat×Nat)}(w:Wk g n B (T++[(a,s)]) F)(hy:(g a)[s]?=some y)(hn:y<n)(hb:y∉B):Wk g n (B++[y]) (T++[(a,s+1),(y,0)]) F where
 bn:=by
  rw[List.nodup_append]
  refine⟨w.bn,by simp,fun x hx z hz=>?_⟩
  simp at hz
  subst hz
  exact fun e=>hb (e ▸ hx)
 bl:=by
  intro x hx
  rcases List.mem_append.mp hx with h | h
  ·exact w.bl x h
  ·simp at h;omega
 z:=List.mem_append_left _ w.z
 mem:=by
  intro x
  rw[List.mem_append,w.mem x]
  simp only[List.mem_append,List.mem_singleton,List.mem_cons,Prod.mk.injEq,List.not_mem_nil,or_false]
  constructor
  ·rintro((⟨s',h | ⟨rfl,rfl⟩⟩ | h) | rfl)
   ·exact .inl ⟨s',.inl h⟩
   ·exact .inl ⟨s'+1,.inr (.inl ⟨rfl,rfl⟩)⟩
   ·exact .inr h
   ·exact .inl ⟨0,.inr (.inr ⟨rfl,rfl⟩)⟩
  ·rintro(⟨s',h | ⟨rfl,rfl⟩ | ⟨rfl,rfl⟩⟩ | h)
   ·exact .inl (.inl ⟨s',.inl h⟩)
   ·exact .inl (.inl ⟨s,.inr ⟨rfl,rfl⟩⟩)
   ·exact .inr rfl
   ·exact .inl (.inr h)
 nd:=by
  have h1:=w.nd
  have h2:y∉(T++[(a,s)]).map (·.1)++F:=by
   intro h
   apply hb
   rw[w.mem y]
   rcases List.mem_append.mp h with h | h
   ·obtain⟨⟨b,t⟩,hp,e⟩:=List.mem_map.mp h
    simp at e
    subst e
    exact .inl ⟨t,hp⟩
   ·exact .inr h
  have p:((T++[(a,s+1),(y,0)]).map (·.1)++F).Perm (y::((T++[(a,s)]).map (·.1)++F)):=by
   simp only[List.map_append,List.map_cons,List.map_nil,List.append_assoc,List.cons_append,List.nil_append]
   have q:=List.perm_middle (a:=y) (l₁:=List.map (fun x=>x.1) T++[a]) (l₂:=F)
   simpa only[List.append_assoc,List.cons_append,List.nil_append] using q
  exact p.nodup_iff.mpr (List.nodup_cons.mpr ⟨h2,h1⟩)
 first:=by
  intro p h
  have:T++[(a,s+1),(y,0)]=(T++[(a,s+1)])++[(y,0)]:=by simp
  rw[this] at h
  rcases Yg h with h | ⟨e,rfl⟩
  ·rcases Yg h with h | ⟨e,rfl⟩
   ·exact w.first p (Yn h)
   ·exact w.first (a,s) (by rw[e];exact Vk _ _)
  ·simp at e
 chain:=by
  intro i p q h1 h2
  have:T++[(a,s+1),(y,0)]=(T++[(a,s+1)])++[(y,0)]:=by simp
  rw[this] at h1 h2
  rcases Yg h2 with h2 | ⟨e,rfl⟩
  ·rcases Yg h1 with h1 | ⟨e1,rfl⟩
   ·rcases Yg h2 with h2 | ⟨e,rfl⟩
    ·rcases Yg h1 with h1 | ⟨e1,rfl⟩
     ·exact w.chain i p q (Yn h1) (Yn h2)
     ·have:=(List.getElem?_eq_some_iff.mp h2).1
      omega
    ·rcases Yg h1 with h1 | ⟨e1,rfl⟩
     ·exact w.chain i p (a,s) (Yn h1) (by rw[e];exact Vk _ _)
     ·omega
   ·have:=(List.getElem?_eq_some_iff.mp h2).1
    omega
  ·rcases Yg h1 with h1 | ⟨e1,rfl⟩
   ·rcases Yg h1 with h1 | ⟨e1,rfl⟩
    ·have:=(List.getElem?_eq_some_iff.mp h1).1
     simp at e
     omega
    ·exact List.mem_of_getElem? hy
   ·omega
 steps:=by
  intro b t h
  simp only[List.mem_append,List.mem_cons,List.not_mem_nil,or_false,Prod.mk.injEq] at h
  rcases h with h | ⟨rfl,rfl⟩ | ⟨rfl,rfl⟩
  ·obtain⟨h1,h2⟩:=w.steps b t (List.mem_append_left _ h)
   exact⟨h1,fun j z hj hz=>List.mem_append_left _ (h2 j z hj hz)⟩
  ·obtain⟨h1,h2⟩:=w.steps b s (by simp)
   refine⟨(List.getElem?_eq_some_iff.mp hy).1,fun j z hj hz=>?_⟩
   by_cases e:j=s
   ·subst e;rw[hy] at hz;cases hz;simp
   ·exact List.mem_append_left _ (h2 j z (by omega) hz)
  ·exact⟨Nat.zero_le _,fun j y h=>by omega⟩
 fin:=fun d h z hz=>List.mem_append_left _ (w.fin d h z hz)
 par:=by
  intro i x h hx
  obtain⟨p,h1,h2,h3⟩:=w.par i x h hx
  exact⟨p,h1,List.mem_append_left _ h2,h3⟩
theorem Xo:∀{n:Nat} {B:List Nat},B.Nodup→(∀x∈B,x<n)→B.length≤n:=by
 intro n B h1 h2
 have:B.length≤(List.range n).length:=List.Nodup.length_le_of_subset h1 (fun x hx=>List.mem_range.mpr (h2 x hx))
 simpa using this
theorem Wk.room{g:Nat→List Nat}{n:Nat}{B F:List Nat}{T:List (Nat×Nat)}(w:Wk g n B T F):B.length≤n:=Xo w.bn w.bl
theorem Wk.small{g:Nat→List Nat}{n:Nat}{B F:List Nat}{T:List (Nat×Nat)}(w:Wk g n B T F):T.length+F.length≤n:=by
 have h:=Xo (n:=n) w.nd fun x hx=>w.bl x ((w.mem x).mpr (by
  rcases List.mem_append.mp hx with h | h
  ·obtain⟨⟨b,t⟩,hp,e⟩:=List.mem_map.mp h
   simp at e
   subst e
   exact .inl ⟨t,hp⟩
  ·exact .inr h))
 simpa using h
theorem Z90{n a s:Nat}{B:List Nat}{T:List (Nat×Nat)}(hs:s≤2):wkM n B T<wkM n B (T++[(a,s)]):=by
 unfold wkM
 simp only[List.map_append,List.sum_append,List.map_cons,List.map_nil,List.sum_cons,List.sum_nil]
 omega
theorem Zh5{n a s:Nat}{B:List Nat}{T:List (Nat×Nat)}(hs:s<2):wkM n B (T++[(a,s+1)])<wkM n B (T++[(a,s)]):=by
 unfold wkM
 simp only[List.map_append,List.sum_append,List.map_cons,List.map_nil,List.sum_cons,List.sum_nil]
 omega
theorem Zi4{n a s y:Nat}{B:List Nat}{T:List (Nat×Nat)}(hs:s<2)(hB:B.length<n):wkM n (B++[y]) (T++[(a,s+1),(y,0)])<wkM n B (T++[(a,s)]):=by
 unfold wkM
 simp only[List.map_append,List.sum_append,List.map_cons,List.map_nil,List.sum_cons,List.sum_nil,List.length_append,List.length_cons,List.length_nil]
 omega
theorem Z76{O:List Nat}(nd:O.Nodup){k x:Nat}(h:O[k]?=some x):O.idxOf x=k:=by
 obtain⟨h1,h2⟩:=List.getElem?_eq_some_iff.mp h
 rw[←h2]
 exact List.Nodup.idxOf_getElem nd k h1
structure Ord(g:Nat→List Nat)(n:Nat)(O:List Nat):Prop where
 nd:O.Nodup
 lt:∀x∈O,x<n
 z:O[0]?=some 0
 cl:∀x∈O,∀y∈g x,y∈O
 up:∀(k:Nat) x,O[k]?=some x→k≠0→∃(j:Nat) (p:Nat),j<k∧O[j]?=some p∧x∈g p
theorem Wk.ord{g:Nat→List Nat}{n:Nat}{B F:List Nat}(w:Wk g n B [] F):Ord g n F.reverse:=by
 have mem:∀x,x∈B↔x∈F:=by intro x;rw[w.mem x];simp
 have nd:F.Nodup:=by have:=w.nd;simpa using this
 have z:F[F.length - 1]?=some 0:=by
  have h0:=(mem 0).mp w.z
  have hl:0<F.length:=List.length_pos_of_mem h0
  rw[List.getElem?_eq_getElem (by omega)]
  by_cases e:F[F.length - 1]=0
  ·rw[e]
  ·obtain⟨p,_,h2,h3⟩:=w.par (F.length - 1) _ (List.getElem?_eq_getElem (by omega)) e
   rw[List.take_of_length_le (by omega)] at h3
   exact absurd ((mem p).mp h2) h3
 have hl:0<F.length:=List.length_pos_of_mem ((mem 0).mp w.z)
 have rv:∀k,k<F.length→F.reverse[k]?=F[F.length - 1 - k]?:=fun k hk=>List.getElem?_reverse hk
 refine⟨(List.reverse_perm F).nodup_iff.mpr nd,fun x hx=>w.bl x ((mem x).mpr (by simpa using hx)),?_,fun x hx y hy=>?_,fun k x hk h0=>?_⟩
 ·rw[rv 0 hl];exact z
 ·rw[List.mem_reverse] at *
  exact(mem y).mp (w.fin x hx y hy)
 ·have hkl:k<F.length:=by
   have:=(List.getElem?_eq_some_iff.mp hk).1
   simpa using this
  rw[rv k hkl] at hk
  have hx:x≠0:=by
   rintro rfl
   have h1:=Z76 nd hk
   have h2:=Z76 nd z
   omega
  obtain⟨p,h1,h2,h3⟩:=w.par _ x hk hx
  obtain⟨j,hj⟩:=List.getElem?_of_mem ((mem p).mp h2)
  have hjl:=(List.getElem?_eq_some_iff.mp hj).1
  have hge:F.length - 1 - k+1≤j:=by
   by_cases e:F.length - 1 - k+1≤j
   ·exact e
   ·exfalso
    apply h3
    apply List.mem_of_getElem? (i:=j)
    rw[List.getElem?_take_of_lt (by omega)]
    exact hj
  refine⟨F.length - 1 - j,p,by omega,?_,h1⟩
  rw[rv _ (by omega),show F.length - 1 - (F.length - 1 - j)=j by omega]
  exact hj
noncomputable def Z69(g:Nat→List Nat)(O:List Nat)(k:Nat):List Nat:=match O[k]? with
 | some x=>(g x).map fun y=>O.idxOf y
 | none=>[]
theorem Ord.num{g:Nat→List Nat}{n:Nat}{O:List Nat}(o:Ord g n O):Num (Z69 g O) O.length where
 pos:=(List.getElem?_eq_some_iff.mp o.z).1
 cl:=by
  intro k hk y hy
  unfold Z69 at hy
  rw[List.getElem?_eq_getElem hk] at hy
  obtain⟨u,hu,rfl⟩:=List.mem_map.mp hy
  exact List.idxOf_lt_length_of_mem (o.cl _ (List.getElem_mem hk) u hu)
 up:=by
  intro k hk h0
  obtain⟨j,p,h1,h2,h3⟩:=o.up k _ (List.getElem?_eq_getElem hk) h0
  refine⟨j,h1,?_⟩
  unfold Z69
  rw[h2]
  exact List.mem_map.mpr ⟨_,h3,Z76 o.nd (List.getElem?_eq_getElem hk)⟩
theorem Ord.le{g:Nat→List Nat}{n:Nat}{O:List Nat}(o:Ord g n O):O.length≤n:=Xo o.nd o.lt
structure Fd(g:Nat→List Nat)(n a:Nat)(L:List Nat)(t:Nat):Prop where
 nd:L.Nodup
 z:L[0]?=some 0
 av:∀x∈L,Av g a x
 done:∀(i:Nat) x,i<t→L[i]?=some x→∀y∈g x,y=a∨y∈L
 le:t≤L.length
theorem Fd.begin(g:Nat→List Nat)(n:Nat){a:Nat}(ha:a≠0):Fd g n a [0] 0 where
 nd:=by simp
 z:=rfl
 av:=by intro x h;simp at h;subst h;exact .zero ha
 done:=by intro i x h;omega
 le:=by simp
theorem Fd.small{g:Nat→List Nat}{n a t:Nat}{L:List Nat}(N:Num g n)(f:Fd g n a L t):L.length≤n:=Xo f.nd fun x hx=>(f.av x hx).lt N
theorem Fd.all{g:Nat→List Nat}{n a t:Nat}{L:List Nat}(f:Fd g n a L t)(ht:L.length≤t)(x:Nat):x∈L↔Av g a x:=by
 refine⟨f.av x,fun h=>?_⟩
 induction h with
 | zero _=>exact List.mem_of_getElem? f.z
 | step _ hy hn ih=>
  obtain⟨i,hi⟩:=List.getElem?_of_mem ih
  rcases f.done i _ (by have:=(List.getElem?_eq_some_iff.mp hi).1;omega) hi _ hy with e | e
  ·exact absurd e hn
  ·exact e
theorem Fd.more{g:Nat→List Nat}{n a t x y:Nat}{L:List Nat}(f:Fd g n a L t)(hx:x∈L)(hy:y∈g x)(ha:y≠a)(hn:y∉L):Fd g n a (L++[y]) t where
 nd:=by
  rw[List.nodup_append]
  refine⟨f.nd,by simp,fun u hu z hz=>?_⟩
  simp at hz
  subst hz
  exact fun e=>hn (e ▸ hu)
 z:=Yn f.z
 av:=by
  intro u h
  rcases List.mem_append.mp h with h | h
  ·exact f.av u h
  ·simp at h;subst h;exact .step (f.av x hx) hy ha
 done:=by
  intro i u h1 h2 v hv
  have:i<L.length:=by have:=f.le;omega
  rw[List.getElem?_append_left this] at h2
  rcases f.done i u h1 h2 v hv with e | e
  ·exact .inl e
  ·exact .inr (List.mem_append_left _ e)
 le:=by have:=f.le;simp;omega
theorem Fd.next{g:Nat→List Nat}{n a t x:Nat}{L:List Nat}(f:Fd g n a L t)(hx:L[t]?=some x)(h:∀y∈g x,y=a∨y∈L):Fd g n a L (t+1) where
 nd:=f.nd
 z:=f.z
 av:=f.av
 done:=by
  intro i u h1 h2 v hv
  by_cases e:i=t
  ·subst e;rw[hx] at h2;cases h2;exact h v hv
  ·exact f.done i u (by omega) h2 v hv
 le:=(List.getElem?_eq_some_iff.mp hx).1
end GT
namespace GT
inductive Up (g:Nat→List Nat) (a:Nat):Nat→Prop
 | refl:Up g a a
 | step {x y:Nat}:Up g a x→y∈g x→a<y→Up g a y
theorem Up.le{g:Nat→List Nat}{a x:Nat}(h:Up g a x):a≤x:=by
 induction h with
 | refl=>exact Nat.le_refl _
 | step _ _ h _=>omega
theorem Up.trans{g:Nat→List Nat}{a b c:Nat}(h1:Up g a b)(h2:Up g b c):Up g a c:=by
 have hab:=h1.le
 induction h2 with
 | refl=>exact h1
 | step _ hy hl ih=>exact .step ih hy (by omega)
theorem Up.av{g:Nat→List Nat}{a x d:Nat}(h:Up g a x)(hd:d<a)(h0:Av g d a):Av g d x:=by
 induction h with
 | refl=>exact h0
 | step _ hy hl ih=>exact .step ih hy (by omega)
inductive Ch (t:Nat→Option Nat):Nat→Nat→Prop
 | refl (x:Nat):Ch t x x
 | step {x m a:Nat}:t x=some m→Ch t m a→Ch t x a
structure Tr(g:Nat→List Nat)(n:Nat)(t:Nat→Option Nat):Prop where
 z:t 0=none
 dn:∀x,(t x).isSome=true→x<n
 lt:∀x m,t x=some m→m<x
 cl:∀x m,t x=some m→m=0∨(t m).isSome=true
 up:∀x m,t x=some m→Up g m x
 dom:∀x,(x=0∨(t x).isSome=true)→∀d,¬Av g d x→x<n→Ch t x d
 mono:∀x m,t x=some m→∀a,(∀p,p<n→x∈g p→(p=0∨(t p).isSome=true)→Ch t p a)→Ch t m a
theorem Ch.le{t:Nat→Option Nat}(lt:∀x m,t x=some m→m<x){x a:Nat}(h:Ch t x a):a≤x:=by
 induction h with
 | refl=>exact Nat.le_refl _
 | step e _ ih=>have:=lt _ _ e;omega
theorem Ch.trans{t:Nat→Option Nat}{x y a:Nat}(h1:Ch t x y)(h2:Ch t y a):Ch t x a:=by
 induction h1 with
 | refl=>exact h2
 | step e _ ih=>exact .step e (ih h2)
theorem Ch.linear{t:Nat→Option Nat}{x a b:Nat}(h1:Ch t x a)(h2:Ch t x b):Ch t a b∨Ch t b a:=by
 induction h1 with
 | refl=>exact .inl h2
 | step e h3 ih=>
  cases h2 with
  | refl=>exact .inr (.step e h3)
  | step e2 h4=>rw[e] at e2;cases e2;exact ih h4
theorem Ch.up{g:Nat→List Nat}{t:Nat→Option Nat}(up:∀x m,t x=some m→Up g m x){x a:Nat}(h:Ch t x a):Up g a x:=by
 induction h with
 | refl=>exact .refl
 | step e _ ih=>exact ih.trans (up _ _ e)
theorem Ch.told{t:Nat→Option Nat}(cl:∀x m,t x=some m→m=0∨(t m).isSome=true){x a:Nat}(h:Ch t x a)(hx:x=0∨(t x).isSome=true):a=0∨(t a).isSome=true:=by
 induction h with
 | refl=>exact hx
 | step e _ ih=>exact ih (cl _ _ e)
theorem Nj{t:Nat→Option Nat}(lt:∀x m,t x=some m→m<x){a b m:Nat}(h:a<b)(e:t b=some m)(c:Nat):(Ch t a c∧Ch t b c)↔(Ch t a c∧Ch t m c):=by
 constructor
 ·rintro⟨h1,h2⟩
  refine⟨h1,?_⟩
  cases h2 with
  | refl=>have:=h1.le lt;omega
  | step e2 h3=>rw[e] at e2;cases e2;exact h3
 ·rintro⟨h1,h2⟩
  exact⟨h1,.step e h2⟩
def Lca(t:Nat→Option Nat)(l:List Nat)(r:Nat):Prop:=∀a,Ch t r a↔∀p∈l,Ch t p a
theorem Lca.one(t:Nat→Option Nat)(p:Nat):Lca t [p] p:=by intro a;simp
theorem Lca.more{t:Nat→Option Nat}{l:List Nat}{r p u:Nat}(h:Lca t l r)(hu:∀a,Ch t u a↔(Ch t r a∧Ch t p a)):Lca t (l++[p]) u:=by
 intro a
 rw[hu a,h a]
 constructor
 ·rintro⟨h1,h2⟩ q hq
  rcases List.mem_append.mp hq with z | z
  ·exact h1 q z
  ·rw[List.mem_singleton] at z;subst z;exact h2
 ·intro h1
  exact⟨fun q hq=>h1 q (List.mem_append_left _ hq),h1 p (by simp)⟩
noncomputable def set1(t:Nat→Option Nat)(k m:Nat):Nat→Option Nat:=fun x=>if x=k then some m else t x
theorem Y0{t:Nat→Option Nat}{k m x:Nat}(h:x≠k):set1 t k m x=t x:=if_neg h
theorem Ye{t:Nat→Option Nat}{k m:Nat}:set1 t k m k=some m:=if_pos rfl
theorem V2{t:Nat→Option Nat}{k m:Nat}(lt:∀x m,t x=some m→m<x){y a:Nat}(hy:y<k):Ch (set1 t k m) y a↔Ch t y a:=by
 constructor
 ·intro h
  induction h with
  | refl=>exact .refl _
  | step e _ ih=>
   rw[Y0 (by omega)] at e
   have:=lt _ _ e
   exact .step e (ih (by omega))
 ·intro h
  induction h with
  | refl=>exact .refl _
  | step e _ ih=>
   have:=lt _ _ e
   exact .step (by rw[Y0 (by omega)];exact e) (ih (by omega))
theorem S4{t:Nat→Option Nat}{k m:Nat}(lt:∀x m,t x=some m→m<x)(hm:m<k){y a:Nat}(ha:k≤a):Ch (set1 t k m) y a↔Ch t y a:=by
 have lt':∀x u,set1 t k m x=some u→u<x:=by
  intro x u e
  by_cases hx:x=k
  ·subst hx;rw[Ye] at e;cases e;exact hm
  ·rw[Y0 hx] at e;exact lt x u e
 constructor
 ·intro h
  induction h with
  | refl=>exact .refl _
  | step e h2 ih=>
   rename_i x u a
   by_cases hx:x=k
   ·subst hx
    have h3:=h2.le lt'
    rw[Ye] at e
    cases e
    omega
   ·rw[Y0 hx] at e
    exact .step e (ih ha)
 ·intro h
  induction h with
  | refl=>exact .refl _
  | step e h2 ih=>
   rename_i x u a
   by_cases hx:x=k
   ·subst hx
    have h3:=h2.le lt
    have h4:=lt _ _ e
    omega
   ·exact .step (by rw[Y0 hx];exact e) (ih ha)
theorem Z85{t:Nat→Option Nat}{k m:Nat}(lt:∀x m,t x=some m→m<x)(hm:m<k){y a:Nat}(h:Ch t y k)(ha:Ch t m a):Ch (set1 t k m) y a:=
 Ch.trans ((S4 lt hm (Nat.le_refl k)).mpr h) (.step Ye ((V2 lt hm).mpr ha))
theorem Zj2{t:Nat→Option Nat}{k m:Nat}{y a:Nat}(h:¬Ch t y k)(ha:Ch t y a):Ch (set1 t k m) y a:=by
 induction ha with
 | refl=>exact .refl _
 | step e h2 ih=>
  rename_i x u a
  by_cases hx:x=k
  ·subst hx;exact absurd (.refl _) h
  ·exact .step (by rw[Y0 hx];exact e) (ih fun z=>h (.step e z))
theorem Zr1{t:Nat→Option Nat}{k m:Nat}(lt:∀x m,t x=some m→m<x)(hm:m<k){y a:Nat}(h:Ch (set1 t k m) y a):(Ch t y k∧(a=k∨Ch t m a))∨Ch t y a:=by
 induction h with
 | refl=>exact .inr (.refl _)
 | step e h2 ih=>
  rename_i x u a
  by_cases hx:x=k
  ·subst hx
   rw[Ye] at e
   cases e
   exact .inl ⟨.refl _,.inr ((V2 lt hm).mp h2)⟩
  ·rw[Y0 hx] at e
   rcases ih with⟨z1,z2⟩ | z
   ·exact .inl ⟨.step e z1,z2⟩
   ·exact .inr (.step e z)
def From(g:Nat→List Nat)(n:Nat)(t:Nat→Option Nat)(k:Nat)(l:List Nat):Prop:=∀p,p∈l↔p<n∧k∈g p∧(p=0∨(t p).isSome=true)
theorem Tr.put{g:Nat→List Nat}{n:Nat}{t:Nat→Option Nat}{k m:Nat}{l:List Nat}(N:Num g n)(T:Tr g n t)(hk:k<n)(h0:k≠0)(hl:From g n t k l)(hm:Lca t l m)(hlt:m<k)(hne:l≠[])
  (J:∀x,x<n→Ch t x k→x≠k→(t x).isSome=true→∃p,p<x∧x∈g p∧(p=0∨(t p).isSome=true)∧(∀u,t x=some u→Ch t u k→Ch t p k)):Tr g n (set1 t k m):=by
 obtain⟨p0,hp0⟩:=List.exists_mem_of_ne_nil l hne
 obtain⟨hp1,hp2,hp3⟩:=(hl p0).mp hp0
 have mp0:Ch t p0 m:=((hm m).mp (.refl m)) p0 hp0
 have mt:m=0∨(t m).isSome=true:=mp0.told T.cl hp3
 have some':∀x,(x=0∨(set1 t k m x).isSome=true)→x=k∨(x=0∨(t x).isSome=true):=by
  intro x h
  by_cases e:x=k
  ·exact .inl e
  ·rw[Y0 e] at h;exact .inr h
 have lt':∀x u,set1 t k m x=some u→u<x:=by
  intro x u e
  by_cases hx:x=k
  ·subst hx;rw[Ye] at e;cases e;exact hlt
  ·rw[Y0 hx] at e;exact T.lt x u e
 have domk:∀d,¬Av g d k→d≠k→Ch t m d:=by
  intro d hd hdk
  rw[hm d]
  intro p hp
  obtain⟨q1,q2,q3⟩:=(hl p).mp hp
  refine T.dom p q3 d (fun z=>hd ?_) q1
  exact .step z q2 (Ne.symm hdk)
 have low:∀u,t k=some u→Ch t u m:=by
  intro u hu
  exact T.mono k u hu m fun p a b c=>(hm m).mp (.refl m) p ((hl p).mpr ⟨a,b,c⟩)
 have sub:∀y a,Ch (set1 t k m) y a→y≠k→Ch t y a:=by
  intro y a h hy
  rcases Zr1 T.lt hlt h with⟨h1,h2⟩ | h1
  ·rcases h2 with rfl | h2
   ·exact h1
   ·-- k is told,as it stands in y's chain
    have hk2:(t k).isSome=true:=by
     cases h1 with
     | refl=>exact absurd rfl hy
     | step e h3=>
      rcases h3.told T.cl (T.cl _ _ e) with z | z
      ·exact absurd z h0
      ·exact z
    obtain⟨u,hu⟩:=Option.isSome_iff_exists.mp hk2
    exact h1.trans (.step hu ((low u hu).trans h2))
  ·exact h1
 refine⟨by rw[Y0 (Ne.symm h0)];exact T.z,fun x h=>?_,lt',?_,?_,?_,?_⟩
 ·by_cases e:x=k
  ·subst e;exact hk
  ·rw[Y0 e] at h;exact T.dn x h
 ·intro x u e
  by_cases hx:x=k
  ·subst hx
   rw[Ye] at e
   cases e
   rcases mt with z | z
   ·exact .inl z
   ·exact .inr (by rw[Y0 (by omega)];exact z)
  ·rw[Y0 hx] at e
   by_cases hu:u=k
   ·subst hu;exact .inr (by rw[Ye];rfl)
   ·rcases T.cl x u e with z | z
    ·exact .inl z
    ·exact .inr (by rw[Y0 hu];exact z)
 ·intro x u e
  by_cases hx:x=k
  ·subst hx
   rw[Ye] at e
   cases e
   exact .step (mp0.up T.up) hp2 hlt
  ·rw[Y0 hx] at e;exact T.up x u e
 ·intro x hx d hd hxn
  by_cases e:x=k
  ·subst e
   by_cases ed:d=x
   ·subst ed;exact .refl _
   ·exact .step Ye ((V2 T.lt hlt).mpr (domk d hd ed))
  ·have old:=T.dom x ((some' x hx).resolve_left e) d hd hxn
   by_cases hdk:k≤d
   ·exact(S4 T.lt hlt hdk).mpr old
   ·by_cases hc:Ch t x k
    ·refine Z85 T.lt hlt hc (domk d (fun z=>hd ?_) (by omega))
     exact(hc.up T.up).av (by omega) z
    ·exact Zj2 hc old
 ·intro x u e a ha
  by_cases hx:x=k
  ·subst hx
   rw[Ye] at e
   cases e
   refine(V2 T.lt hlt).mpr ((hm a).mpr fun p hp=>?_)
   obtain⟨q1,q2,q3⟩:=(hl p).mp hp
   have:=ha p q1 q2 (by
    rcases q3 with z | z
    ·exact .inl z
    ·by_cases e:p=x
     ·subst e;exact .inr (by rw[Ye];rfl)
     ·exact .inr (by rw[Y0 e];exact z))
   by_cases e:p=x
   ·subst e
    by_cases hap:a=p
    ·subst hap;exact .refl _
    ·cases this with
     | refl=>exact absurd rfl hap
     | step e2 h3=>
      rw[Ye] at e2
      cases e2
      have h4:=(V2 T.lt hlt).mp h3
      have hk2:(t p).isSome=true:=q3.resolve_left h0
      obtain⟨u,hu⟩:=Option.isSome_iff_exists.mp hk2
      exact .step hu ((low u hu).trans h4)
   ·exact sub p a this e
  ·rw[Y0 hx] at e
   have hxn:(t x).isSome=true:=by rw[e];rfl
   have old:∀p,p<n→x∈g p→(p=0∨(t p).isSome=true)→p≠k→Ch t p a:=fun p q1 q2 q3 q4=>sub p a (ha p q1 q2 (q3.imp id fun z=>by rw[Y0 q4];exact z)) q4
   have oldk:k<n→x∈g k→(k=0∨(t k).isSome=true)→Ch t k a:=by
    intro q1 q2 q3
    have:=ha k q1 q2 (.inr (by rw[Ye];rfl))
    cases this with
    | refl=>exact .refl _
    | step e2 h3=>
     rw[Ye] at e2
     cases e2
     have h4:=(V2 T.lt hlt).mp h3
     obtain⟨v,hv⟩:=Option.isSome_iff_exists.mp (q3.resolve_left h0)
     exact .step hv ((low v hv).trans h4)
   have base:Ch t u a:=T.mono x u e a fun p q1 q2 q3=>by
    by_cases e:p=k
    ·subst e;exact oldk q1 q2 q3
    ·exact old p q1 q2 q3 e
   by_cases hc:Ch t u k
   ·by_cases hak:k≤a
    ·exact(S4 T.lt hlt hak).mpr base
    ·-- the node ahead of x has k in its chain too
     obtain⟨p,j1,j2,j3,j4⟩:=J x (T.dn x hxn) (.step e hc) hx hxn
     have hxl:=T.dn x hxn
     have hpk:=j4 u e hc
     have hap:=ha p (by omega) j2 (by
      rcases j3 with z | z
      ·exact .inl z
      ·by_cases e:p=k
       ·subst e;exact .inr (by rw[Ye];rfl)
       ·exact .inr (by rw[Y0 e];exact z))
     refine Z85 T.lt hlt hc ?_
     rcases((S4 T.lt hlt (Nat.le_refl k)).mpr hpk).linear hap with z | z
     ·cases z with
      | refl=>omega
      | step e2 h3=>rw[Ye] at e2;cases e2;exact(V2 T.lt hlt).mp h3
     ·have:=z.le lt';omega
   ·exact Zj2 hc base
theorem Tr.begin{g:Nat→List Nat}{n:Nat}(N:Num g n):Tr g n fun _=>none where
 z:=rfl
 dn:=fun x h=>by cases h
 lt:=fun x m h=>by cases h
 cl:=fun x m h=>by cases h
 up:=fun x m h=>by cases h
 dom:=fun x hx d hd hn=>by
  rcases hx with rfl | hx
  ·have:=Q1 N N.pos hd
   have e:d=0:=by omega
   subst e
   exact .refl 0
  ·cases hx
 mono:=fun x m h=>by cases h
structure Turn(g:Nat→List Nat)(n:Nat)(first:Prop)(t:Nat→Option Nat)(k:Nat):Prop where
 tr:Tr g n t
 told:∀x,0<x→x<n→(x<k∨¬first)→(t x).isSome=true
 none:first→∀x,k≤x→t x=none
 low:∀x u p,x<k→t x=some u→p<x→x∈g p→∀a,Ch t u a→Ch t p a
 high:∀x u p,k≤x→t x=some u→p<x→x∈g p→∀a,k≤a→Ch t u a→Ch t p a
theorem Turn.from{g:Nat→List Nat}{n k p:Nat}{first:Prop}{t:Nat→Option Nat}(U:Turn g n first t k)(hk:k<n)(hp:p<k):p=0∨(t p).isSome=true:=by
 by_cases e:p=0
 ·exact .inl e
 ·exact .inr (U.told p (by omega) (by omega) (.inl hp))
theorem Turn.put{g:Nat→List Nat}{n k m:Nat}{first:Prop}{t:Nat→Option Nat}{l:List Nat}(N:Num g n)(U:Turn g n first t k)(hk:k<n)(h0:k≠0)(hl:From g n t k l)(hm:Lca t l m):m<k∧Turn g n first (set1 t k m) (k+1)∧∀u,t k=some u→m≤u:=by
 have T:=U.tr
 obtain⟨p0,hp,he⟩:=N.up k hk h0
 have hp0:p0∈l:=(hl p0).mpr ⟨by omega,he,U.from hk hp⟩
 have mp0:Ch t p0 m:=(hm m).mp (.refl m) p0 hp0
 have hlt:m<k:=by have:=mp0.le T.lt;omega
 have T':Tr g n (set1 t k m):=by
  refine T.put N hk h0 hl hm hlt (List.ne_nil_of_mem hp0) fun x hx hc hxk hxt=>?_
  have hkx:k<x:=by have:=hc.le T.lt;omega
  obtain⟨p,q1,q2⟩:=N.up x hx (by omega)
  refine⟨p,q1,q2,?_,fun u hu hcu=>?_⟩
  ·by_cases e:p=0
   ·exact .inl e
   ·refine .inr (U.told p (by omega) (by omega) (.inr fun f=>?_))
    have:=U.none f x (by omega)
    rw[this] at hxt
    cases hxt
  ·exact U.high x u p (by omega) hu q1 q2 k (Nat.le_refl k) hcu
 refine⟨hlt,⟨T',fun x h1 h2 h3=>?_,fun f x hx=>?_,fun x u p hx hu hpx hg a ha=>?_,fun x u p hx hu hpx hg a ha hca=>?_⟩,fun u hu=>?_⟩
 ·by_cases e:x=k
  ·subst e;rw[Ye];rfl
  ·rw[Y0 e]
   exact U.told x h1 h2 (h3.imp (fun z=>by omega) id)
 ·rw[Y0 (by omega)];exact U.none f x (by omega)
 ·by_cases e:x=k
  ·subst e
   rw[Ye] at hu
   cases hu
   have h1:=(V2 T.lt hlt).mp ha
   refine(V2 T.lt hpx).mpr ((hm a).mp h1 p ((hl p).mpr ⟨by omega,hg,U.from hk hpx⟩))
  ·rw[Y0 e] at hu
   have hux:=T.lt x u hu
   exact(V2 T.lt (by omega)).mpr (U.low x u p (by omega) hu hpx hg a ((V2 T.lt (by omega)).mp ha))
 ·rw[Y0 (by omega)] at hu
  have h1:=(S4 T.lt hlt (by omega:k≤a)).mp hca
  exact(S4 T.lt hlt (by omega:k≤a)).mpr (U.high x u p (by omega) hu hpx hg a (by omega) h1)
 ·exact(T.mono k u hu m fun p a b c=>(hm m).mp (.refl m) p ((hl p).mpr ⟨a,b,c⟩)).le T.lt
theorem Turn.pass{g:Nat→List Nat}{n k m:Nat}{first:Prop}{t:Nat→Option Nat}{l:List Nat}(N:Num g n)(U:Turn g n first t k)(hk:k<n)(h0:k≠0)(hl:From g n t k l)(hm:Lca t l m)(e:t k=some m):Turn g n first t (k+1):=by
 have h:=(U.put N hk h0 hl hm).2.1
 have:set1 t k m=t:=by
  funext x
  by_cases hx:x=k
  ·subst hx;rw[Ye,e]
  ·rw[Y0 hx]
 rw[this] at h
 exact h
theorem Turn.again{g:Nat→List Nat}{n:Nat}{first:Prop}{t:Nat→Option Nat}(U:Turn g n first t n):Turn g n False t 1 where
 tr:=U.tr
 told:=fun x h1 h2 _=>U.told x h1 h2 (.inl h2)
 none:=fun f=>f.elim
 low:=fun x u p hx hu hpx=>by
  have e:x=0:=by omega
  subst e
  rw[U.tr.z] at hu
  cases hu
 high:=fun x u p hx hu hpx hg a _ hca=>U.low x u p (U.tr.dn x (by rw[hu];rfl)) hu hpx hg a hca
theorem Turn.begin{g:Nat→List Nat}{n:Nat}(N:Num g n):Turn g n True (fun _=>Option.none) 1 where
 tr:=Tr.begin N
 told:=fun x h1 h2 h=>by
  rcases h with h | h
  ·omega
  ·exact absurd trivial h
 none:=fun _ _ _=>rfl
 low:=fun x u p _ h=>by cases h
 high:=fun x u p _ h=>by cases h
theorem Tr.done{g:Nat→List Nat}{n:Nat}{t:Nat→Option Nat}(N:Num g n)(T:Tr g n t)(all:∀x,0<x→x<n→(t x).isSome=true)(fix:∀x m,t x=some m→∃l,From g n t x l∧Lca t l m):∀k m,t k=some m→Must g k m:=by
 have key:∀a x,Av g a x→¬Ch t x a:=by
  intro a x h
  induction h with
  | zero h0=>
   intro z
   have:=z.le T.lt
   omega
  | step hx hy hn ih=>
   rename_i x y
   intro z
   cases z with
   | refl=>exact hn rfl
   | step e h3=>
    obtain⟨l,f1,f2⟩:=fix y _ e
    have hxn:=hx.lt N
    refine ih ((f2 a).mp h3 x ((f1 x).mpr ⟨hxn,hy,?_⟩))
    by_cases e0:x=0
    ·exact .inl e0
    ·exact .inr (all x (by omega) hxn)
 intro k m e
 have hk:=T.dn k (by rw[e];rfl)
 have hlt:=T.lt k m e
 refine⟨by omega,fun z=>key m k z (.step e (.refl m)),fun d hd hdom=>?_⟩
 have:=T.dom k (.inr (by rw[e];rfl)) d hdom hk
 cases this with
 | refl=>exact absurd rfl hd
 | step e2 h3=>
  rw[e] at e2
  cases e2
  exact h3.le T.lt
end GT
namespace K32
open PySem PySem.Spec PyProof.Rows L2 L3 U
abbrev RR(c:Cfg)(b:Ss)(N:List Str)(sp:DSp):Prop:=∀ds M Q Z,sp ds M Q Z→tss c noX b {nx:=fun _ M=>Q .non M,rt:=Q} (start0 N ds) M
noncomputable def top(i:Nat):Stmt:=PySem.Challenge.pw_unjump_k32_rings_and_nest.main.body.getD i (.Pass ⟨0,0,0,0⟩)
noncomputable def FN:List Str:=["ways","comings","last_above","last_above_all","musts","stands_above","ways_back","heads","come_to","ring","nest","_law_cell","_law_mixed","_law_great","_law_far","_law_node","_law_goals","_law_order","_law_graph","_law_drawn","_law_without","_law_over","_law_back","_law_alike","_law_ring","_law_apart","_law_inmost","_law_nest","law"]
noncomputable def GN:List Str:=[]
noncomputable def BN:List Str:=["enumerate","range","len","sorted","list","min","max","isinstance","tuple","str","int","bool","dict"]
noncomputable abbrev Sn:Stmt:=top 1
noncomputable def Ea:List Str:=["node"]
theorem Zt4:FnScope Ea ["node"] (Z3 Sn):=⟨rfl,rfl,rfl,by decide+kernel,rfl,by decide+kernel,by decide+kernel⟩
noncomputable def Ox:Ss:=
 (.cons (.ret (.tup .nil))
 .nil)
noncomputable def Sz:Ss:=
 (.cons (.ite (.cmp .eq (.ix (.var 0) (.int 0)) (.str "test")) (.cons (.ret (.tup (.cons (.ix (.var 0) (.int 4)) (.cons (.ix (.var 0) (.int 5)) .nil))))
 .nil) .nil)
 Ox)
noncomputable def b_ways:Ss:=
 (.cons (.ite (.cmp .eq (.ix (.var 0) (.int 0)) (.str "sum")) (.cons (.ret (.tup (.cons (.ix (.var 0) (.int 5)) .nil)))
 .nil) .nil)
 Sz)
theorem Zz3:Yp (ck0 Ea Sn FN GN BN) b_ways (Z5 Sn)=true:=by decide+kernel
noncomputable abbrev Xj:Stmt:=top 2
noncomputable def Tm:List Str:=["graph","told","place","node","goal"]
theorem Cb:FnScope Tm ["graph"] (Z3 Xj):=⟨rfl,rfl,rfl,by decide+kernel,rfl,by decide+kernel,by decide+kernel⟩
noncomputable def Qj:Ss:=
 (.cons (.ret (.var 1))
 .nil)
noncomputable def Ru:Ss:=
 (.cons (.expr (.mt .append (.ix (.var 1) (.var 4)) (.cons (.var 2) .nil)))
 .nil)
noncomputable def Qg:Ss:=
 (.cons (.for_ [4] (.seq (.call 0 (.cons (.var 3) .nil))) Ru)
 .nil)
noncomputable def b_comings:Ss:=
 (.cons (.set [1] (.comp ["node"] [none] [0] (.seq (.var 0)) .no (.lst .nil)))
 (.cons (.for_ [2,3] (.enm (.var 0)) Qg)
 Qj))
theorem Z82:Yp (ck0 Tm Xj FN GN BN) b_comings (Z5 Xj)=true:=by decide+kernel
noncomputable abbrev Yf:Stmt:=top 6
noncomputable def W9:List Str:=["told","one","other"]
theorem O3:FnScope W9 ["told","one","other"] (Z3 Yf):=⟨rfl,rfl,rfl,by decide+kernel,rfl,by decide+kernel,by decide+kernel⟩
noncomputable def Vr:Ss:=
 (.cons (.ret (.var 1))
 .nil)
noncomputable def Vs:Ss:=
 (.cons (.ite (.cmp .lt (.var 1) (.var 2)) (.cons (.set [2] (.ix (.var 0) (.var 2)))
 .nil) (.cons (.set [1] (.ix (.var 0) (.var 1)))
 .nil))
 .nil)
noncomputable def b_last_above:Ss:=
 (.cons (.while_ (.cmp .ne (.var 1) (.var 2)) Vs)
 Vr)
theorem Js:Yp (ck0 W9 Yf FN GN BN) b_last_above (Z5 Yf)=true:=by decide+kernel
noncomputable abbrev Zp:Stmt:=top 5
noncomputable def X2:List Str:=["told","places","last","place"]
theorem Sb:FnScope X2 ["told","places"] (Z3 Zp):=⟨rfl,rfl,rfl,by decide+kernel,rfl,by decide+kernel,by decide+kernel⟩
noncomputable def W5:Ss:=
 (.cons (.ret (.var 2))
 .nil)
noncomputable def Xx:Ss:=
 (.cons (.ite (.bop false (.cons (.cmp .eq (.var 3) (.int 0)) (.cons (.cmp .isnot (.ix (.var 0) (.var 3)) .non) .nil))) (.cons (.set [2] (.ife (.cmp .is (.var 2) .non) (.var 3) (.call 2 (.cons (.var 0) (.cons (.var 2) (.cons (.var 3) .nil))))))
 .nil) .nil)
 .nil)
noncomputable def b_last_above_all:Ss:=
 (.cons (.set [2] .non)
 (.cons (.for_ [3] (.seq (.var 1)) Xx)
 W5))
theorem Su:Yp (ck0 X2 Zp FN GN BN) b_last_above_all (Z5 Zp)=true:=by decide+kernel
noncomputable abbrev V3:Stmt:=top 4
noncomputable def Oj:List Str:=["graph","froms","told","changed","place","last"]
theorem Zh4:FnScope Oj ["graph"] (Z3 V3):=⟨rfl,rfl,rfl,by decide+kernel,rfl,by decide+kernel,by decide+kernel⟩
noncomputable def Ny:Ss:=
 (.cons (.ret (.var 2))
 .nil)
noncomputable def Jx:Ss:=
 (.cons (.set [5] (.call 3 (.cons (.var 2) (.cons (.ix (.var 1) (.var 4)) .nil))))
 (.cons (.ite (.cmp .ne (.var 5) (.ix (.var 2) (.var 4))) (.cons (.put (.var 2) (.var 4) (.var 5))
 (.cons (.set [3] (.bl true))
 .nil)) .nil)
 .nil))
noncomputable def J7:Ss:=
 (.cons (.set [3] (.bl false))
 (.cons (.for_ [4] (.rng2 (.int 1) (.bf .len (.cons (.var 0) .nil))) Jx)
 .nil))
noncomputable def b_musts:Ss:=
 (.cons (.set [1] (.call 1 (.cons (.var 0) .nil)))
 (.cons (.set [2] (.bin .mul (.lst (.cons .non .nil)) (.bf .len (.cons (.var 0) .nil))))
 (.cons (.set [3] (.bl true))
 (.cons (.while_ (.var 3) J7)
 Ny))))
theorem Zt0:Yp (ck0 Oj V3 FN GN BN) b_musts (Z5 V3)=true:=by decide+kernel
noncomputable abbrev Y1:Stmt:=top 7
noncomputable def Xh:List Str:=["musts","one","other","place"]
theorem Rt:FnScope Xh ["musts","one","other"] (Z3 Y1):=⟨rfl,rfl,rfl,by decide+kernel,rfl,by decide+kernel,by decide+kernel⟩
noncomputable def Wt:Ss:=
 (.cons (.ret (.cmp .eq (.var 3) (.var 1)))
 .nil)
noncomputable def Wv:Ss:=
 (.cons (.set [3] (.ix (.var 0) (.var 3)))
 .nil)
noncomputable def b_stands_above:Ss:=
 (.cons (.set [3] (.var 2))
 (.cons (.while_ (.cmp .gt (.var 3) (.var 1)) Wv)
 Wt))
theorem Qm:Yp (ck0 Xh Y1 FN GN BN) b_stands_above (Z5 Y1)=true:=by decide+kernel
noncomputable abbrev Yu:Stmt:=top 9
noncomputable def Wo:List Str:=["graph","told","place","node","goal"]
theorem Na:FnScope Wo ["graph"] (Z3 Yu):=⟨rfl,rfl,rfl,by decide+kernel,rfl,by decide+kernel,by decide+kernel⟩
noncomputable def Tk:Ss:=
 (.cons (.ret (.var 1))
 .nil)
noncomputable def Tf:Ss:=
 (.cons (.ite (.cmp .le (.var 4) (.var 2)) (.cons (.expr (.mt .append (.var 1) (.cons (.tup (.cons (.var 2) (.cons (.var 4) .nil))) .nil)))
 .nil) .nil)
 .nil)
noncomputable def Th:Ss:=
 (.cons (.for_ [4] (.seq (.call 0 (.cons (.var 3) .nil))) Tf)
 .nil)
noncomputable def b_ways_back:Ss:=
 (.cons (.set [1] (.lst .nil))
 (.cons (.for_ [2,3] (.enm (.var 0)) Th)
 Tk))
theorem Gr:Yp (ck0 Wo Yu FN GN BN) b_ways_back (Z5 Yu)=true:=by decide+kernel
noncomputable abbrev V8:Stmt:=top 10
noncomputable def O8:List Str:=["graph","tree","told","place","goal"]
theorem Zf4:FnScope O8 ["graph"] (Z3 V8):=⟨rfl,rfl,rfl,by decide+kernel,rfl,by decide+kernel,by decide+kernel⟩
noncomputable def N8:Ss:=
 (.cons (.ret (.bf .sorted1 (.cons (.var 2) .nil)))
 .nil)
noncomputable def Jd:Ss:=
 (.cons (.ite (.call 5 (.cons (.var 1) (.cons (.var 4) (.cons (.var 3) .nil)))) (.cons (.put (.var 2) (.var 4) (.bl true))
 .nil) .nil)
 .nil)
noncomputable def b_heads:Ss:=
 (.cons (.set [1] (.call 4 (.cons (.var 0) .nil)))
 (.cons (.set [2] .dict0)
 (.cons (.for_ [3,4] (.seq (.call 6 (.cons (.var 0) .nil))) Jd)
 N8)))
theorem Zs0:Yp (ck0 O8 V8 FN GN BN) b_heads (Z5 V8)=true:=by decide+kernel
noncomputable abbrev Xk:Stmt:=top 13
noncomputable def Tg:List Str:=["links","starts","taken","told","left","place"]
theorem Cq:FnScope Tg ["links","starts","taken"] (Z3 Xk):=⟨rfl,rfl,rfl,by decide+kernel,rfl,by decide+kernel,by decide+kernel⟩
noncomputable def Q5:Ss:=
 (.cons (.ret (.var 3))
 .nil)
noncomputable def Rq:Ss:=
 (.cons (.set [5] (.mt .pop0 (.var 4) .nil))
 (.cons (.ite (.cmp .notin (.var 5) (.var 2)) (.cons (.put (.var 2) (.var 5) (.bl true))
 (.cons (.expr (.mt .append (.var 3) (.cons (.var 5) .nil)))
 (.cons (.expr (.mt .extend (.var 4) (.cons (.ix (.var 0) (.var 5)) .nil)))
 .nil))) .nil)
 .nil))
noncomputable def b_come_to:Ss:=
 (.cons (.set [3] (.lst .nil))
 (.cons (.set [4] (.bf .list1 (.cons (.var 1) .nil)))
 (.cons (.while_ (.cmp .ne (.var 4) (.lst .nil)) Rq)
 Q5)))
theorem Z36:Yp (ck0 Tg Xk FN GN BN) b_come_to (Z5 Xk)=true:=by decide+kernel
noncomputable abbrev Sk:Stmt:=top 11
noncomputable def Gy:List Str:=["graph","head","tree","froms","within"]
theorem Zu0:FnScope Gy ["graph","head"] (Z3 Sk):=⟨rfl,rfl,rfl,by decide+kernel,rfl,by decide+kernel,by decide+kernel⟩
noncomputable def b_ring:Ss:=
 (.cons (.set [2] (.call 4 (.cons (.var 0) .nil)))
 (.cons (.set [3] (.call 1 (.cons (.var 0) .nil)))
 (.cons (.set [4] (.dct (.var 1) (.bl true)))
 (.cons (.expr (.call 8 (.cons (.var 3) (.cons (.comp ["place","tree","head"] [none,(some 2),(some 1)] [0] (.seq (.ix (.var 3) (.var 1))) (.yes (.call 5 (.cons (.var 1) (.cons (.var 2) (.cons (.var 0) .nil))))) (.var 0)) (.cons (.var 4) .nil)))))
 (.cons (.ret (.bf .sorted1 (.cons (.var 4) .nil)))
 .nil)))))
theorem Y18:Yp (ck0 Gy Sk FN GN BN) b_ring (Z5 Sk)=true:=by decide+kernel
noncomputable abbrev Se:Stmt:=top 12
noncomputable def Fw:List Str:=["graph","rings","told","head","within","others"]
theorem Zr2:FnScope Fw ["graph"] (Z3 Se):=⟨rfl,rfl,rfl,by decide+kernel,rfl,by decide+kernel,by decide+kernel⟩
noncomputable def Fm:Ss:=
 (.cons (.ret (.var 2))
 .nil)
noncomputable def Fj:Ss:=
 (.cons (.set [5] (.comp ["other","nodes","head"] [none,none,(some 3)] [0,1] (.seq (.var 1)) (.yes (.bop true (.cons (.cmp .ne (.var 0) (.var 2)) (.cons (.cmp .isin (.var 2) (.var 1)) .nil)))) (.tup (.cons (.bf .len (.cons (.var 1) .nil)) (.cons (.var 0) .nil)))))
 (.cons (.put (.var 2) (.var 3) (.ife (.cmp .ne (.var 5) (.lst .nil)) (.ix (.bf .min1 (.cons (.var 5) .nil)) (.int 1)) .non))
 .nil))
noncomputable def b_nest:Ss:=
 (.cons (.set [1] (.comp ["head","graph"] [none,(some 0)] [0] (.seq (.call 7 (.cons (.var 0) .nil))) .no (.tup (.cons (.var 0) (.cons (.call 9 (.cons (.var 1) (.cons (.var 0) .nil))) .nil)))))
 (.cons (.set [2] .dict0)
 (.cons (.for_ [3,4] (.seq (.var 1)) Fj)
 Fm)))
theorem Zx5:Yp (ck0 Fw Se FN GN BN) b_nest (Z5 Se)=true:=by decide+kernel
noncomputable abbrev V1:Stmt:=top 15
noncomputable def O4:List Str:=["_law_script","_law_k"]
theorem Z99:FnScope O4 ["_law_script","_law_k"] (Z3 V1):=⟨rfl,rfl,rfl,by decide+kernel,rfl,by decide+kernel,by decide+kernel⟩
noncomputable def G4:Ss:=
 (.cons (.ret (.int 0))
 .nil)
noncomputable def b_Lcell:Ss:=
 (.cons (.ite (.cmp .lt (.var 1) (.bf .len (.cons (.var 0) .nil))) (.cons (.ret (.ix (.var 0) (.var 1)))
 .nil) .nil)
 G4)
theorem Zp0:Yp (ck0 O4 V1 FN GN BN) b_Lcell (Z5 V1)=true:=by decide+kernel
noncomputable abbrev W3:Stmt:=top 16
noncomputable def R9:List Str:=["_law_cell_here","_law_k","_law_number"]
theorem Z25:FnScope R9 ["_law_cell_here","_law_k"] (Z3 W3):=⟨rfl,rfl,rfl,by decide+kernel,rfl,by decide+kernel,by decide+kernel⟩
noncomputable def b_Lmixed:Ss:=
 (.cons (.set [2] (.bin .mod (.bin .add (.bin .add (.bin .mul (.bin .mod (.var 0) (.int 2147483647)) (.int 48271)) (.bin .mul (.bin .mul (.int 7919) (.var 1)) (.var 1))) (.int 104729)) (.int 2147483647)))
 (.cons (.ret (.bin .mod (.bin .mul (.var 2) (.var 2)) (.int 2147483629)))
 .nil))
theorem Z96:Yp (ck0 R9 W3 FN GN BN) b_Lmixed (Z5 W3)=true:=by decide+kernel
noncomputable abbrev Xy:Stmt:=top 17
noncomputable def Ri:List Str:=["_law_number"]
theorem Z74:FnScope Ri ["_law_number"] (Z3 Xy):=⟨rfl,rfl,rfl,by decide+kernel,rfl,by decide+kernel,by decide+kernel⟩
noncomputable def b_Lgreat:Ss:=
 (.cons (.ret (.bin .sub (.bin .mod (.bin .mul (.var 0) (.bin .pow (.int 982451653) (.int 3))) (.bin .add (.bin .mul (.int 2) (.bin .pow (.int 10) (.int 18))) (.int 1))) (.bin .pow (.int 10) (.int 18))))
 .nil)
theorem Zf0:Yp (ck0 Ri Xy FN GN BN) b_Lgreat (Z5 Xy)=true:=by decide+kernel
noncomputable abbrev Sj:Stmt:=top 18
noncomputable def Fh:List Str:=["_law_number","_law_k","_law_many","_law_mode","_law_to"]
theorem Zv0:FnScope Fh ["_law_number","_law_k","_law_many","_law_mode"] (Z3 Sj):=⟨rfl,rfl,rfl,by decide+kernel,rfl,by decide+kernel,by decide+kernel⟩
noncomputable def Ov:Ss:=
 (.cons (.ret (.bin .mod (.bin .fdiv (.var 0) (.int 32768)) (.var 2)))
 .nil)
noncomputable def Pt:Ss:=
 (.cons (.ite (.cmp .eq (.var 3) (.int 2)) (.cons (.ret (.bin .sub (.var 1) (.bin .mod (.var 1) (.ix (.lst (.cons (.int 1) (.cons (.int 2) (.cons (.int 4) (.cons (.int 8) .nil))))) (.bin .mod (.bin .fdiv (.var 0) (.int 128)) (.int 4))))))
 .nil) .nil)
 Ov)
noncomputable def Ol:Ss:=
 (.cons (.ite (.bop true (.cons (.cmp .eq (.var 3) (.int 2)) (.cons (.cmp .eq (.bin .mod (.bin .fdiv (.var 0) (.int 64)) (.int 2)) (.int 0)) .nil))) (.cons (.ret (.bf .min2 (.cons (.bin .add (.bin .add (.var 1) (.int 1)) (.bin .mod (.bin .fdiv (.var 0) (.int 128)) (.int 3))) (.cons (.bin .sub (.var 2) (.int 1)) .nil))))
 .nil) .nil)
 Pt)
noncomputable def Ed:Ss:=
 (.cons (.ret (.ix (.lst (.cons (.int 0) (.cons (.var 1) .nil))) (.bin .mod (.bin .fdiv (.var 0) (.int 64)) (.int 2))))
 .nil)
noncomputable def b_Lfar:Ss:=
 (.cons (.ite (.cmp .eq (.var 3) (.int 1)) (.cons (.set [4] (.bin .add (.bin .add (.var 1) (.int 1)) (.bin .mod (.bin .fdiv (.var 0) (.int 32768)) (.bin .sub (.var 2) (.var 1)))))
 (.cons (.ite (.cmp .lt (.var 4) (.var 2)) (.cons (.ret (.var 4))
 .nil) .nil)
 Ed)) .nil)
 Ol)
theorem Y05:Yp (ck0 Fh Sj FN GN BN) b_Lfar (Z5 Sj)=true:=by decide+kernel
noncomputable abbrev Vb:Stmt:=top 19
noncomputable def Ob:List Str:=["_law_cell_here","_law_k","_law_many","_law_mode","_law_number","_law_names","_law_one","_law_other","_law_to","_law_near","_law_sign","_law_no"]
theorem Zc7:FnScope Ob ["_law_cell_here","_law_k","_law_many","_law_mode"] (Z3 Vb):=⟨rfl,rfl,rfl,by decide+kernel,rfl,by decide+kernel,by decide+kernel⟩
noncomputable def Ni:Ss:=
 (.cons (.ret (.ix (.lst (.cons (.tup (.cons (.str "end") .nil)) (.cons (.tup (.cons (.str "spin") .nil)) .nil))) (.bin .mod (.var 4) (.int 2))))
 .nil)
noncomputable def Ja:Ss:=
 (.cons (.ite (.cmp .lt (.bin .mod (.var 4) (.int 32)) (.int 30)) (.cons (.set [11] (.ix (.lst (.cons (.var 9) (.cons (.var 9) (.cons (.var 9) (.cons (.call 14 (.cons (.bin .mod (.bin .mul (.var 4) (.int 48271)) (.int 2147483629)) (.cons (.var 1) (.cons (.var 2) (.cons (.var 3) .nil))))) .nil))))) (.bin .mod (.bin .fdiv (.var 4) (.int 32)) (.int 4))))
 (.cons (.ret (.tup (.cons (.str "test") (.cons (.var 6) (.cons (.ix (.lst (.cons (.str "<") (.cons (.str "=") .nil))) (.bin .mod (.bin .fdiv (.var 4) (.int 131)) (.int 2))) (.cons (.var 7) (.cons (.var 8) (.cons (.var 11) .nil))))))))
 .nil)) .nil)
 Ni)
noncomputable def b_Lnode:Ss:=
 (.cons (.set [4] (.call 12 (.cons (.var 0) (.cons (.var 1) .nil))))
 (.cons (.set [5] (.lst (.cons (.str "x") (.cons (.str "y") (.cons (.str "z1") (.cons (.str "z") .nil))))))
 (.cons (.set [6] (.ix (.lst (.cons (.ix (.var 5) (.bin .mod (.bin .fdiv (.var 4) (.int 64)) (.int 4))) (.cons (.bin .sub (.bin .mod (.bin .fdiv (.var 4) (.int 64)) (.int 9)) (.int 4)) .nil))) (.bin .fdiv (.bin .mod (.bin .fdiv (.var 4) (.int 512)) (.int 4)) (.int 3))))
 (.cons (.set [7] (.ix (.lst (.cons (.ix (.var 5) (.bin .mod (.bin .fdiv (.var 4) (.int 2048)) (.int 4))) (.cons (.call 13 (.cons (.bin .add (.var 0) (.var 4)) .nil)) .nil))) (.bin .fdiv (.bin .mod (.bin .fdiv (.var 4) (.int 8192)) (.int 4)) (.int 3))))
 (.cons (.set [8] (.call 14 (.cons (.var 4) (.cons (.var 1) (.cons (.var 2) (.cons (.var 3) .nil))))))
 (.cons (.set [9] (.bf .min2 (.cons (.bin .add (.var 1) (.int 1)) (.cons (.bin .sub (.var 2) (.int 1)) .nil))))
 (.cons (.ite (.cmp .lt (.bin .mod (.var 4) (.int 32)) (.int 13)) (.cons (.set [10] (.ix (.lst (.cons (.str "+") (.cons (.str "-") (.cons (.str "/") (.cons (.str "rest") (.cons (.str "&") (.cons (.str "^") .nil))))))) (.bin .mod (.bin .fdiv (.var 4) (.int 67)) (.int 6))))
 (.cons (.ret (.tup (.cons (.str "sum") (.cons (.ix (.var 5) (.bin .mod (.bin .fdiv (.var 4) (.int 407)) (.int 4))) (.cons (.var 6) (.cons (.var 10) (.cons (.var 7) (.cons (.ix (.lst (.cons (.var 9) (.cons (.var 9) (.cons (.var 9) (.cons (.var 8) .nil))))) (.bin .mod (.bin .fdiv (.var 4) (.int 32)) (.int 4))) .nil))))))))
 .nil)) .nil)
 Ja)))))))
theorem Zq0:Yp (ck0 Ob Vb FN GN BN) b_Lnode (Z5 Vb)=true:=by decide+kernel
noncomputable abbrev Xz:Stmt:=top 20
noncomputable def Ra:List Str:=["_law_node_here"]
theorem Z58:FnScope Ra ["_law_node_here"] (Z3 Xz):=⟨rfl,rfl,rfl,by decide+kernel,rfl,by decide+kernel,by decide+kernel⟩
noncomputable def S7:Ss:=
 (.cons (.ret (.lst .nil))
 .nil)
noncomputable def Vn:Ss:=
 (.cons (.ite (.cmp .eq (.ix (.var 0) (.int 0)) (.str "test")) (.cons (.ret (.lst (.cons (.ix (.var 0) (.int 5)) (.cons (.ix (.var 0) (.int 4)) .nil))))
 .nil) .nil)
 S7)
noncomputable def b_Lgoals:Ss:=
 (.cons (.ite (.cmp .eq (.ix (.var 0) (.int 0)) (.str "sum")) (.cons (.ret (.lst (.cons (.ix (.var 0) (.int 5)) .nil)))
 .nil) .nil)
 Vn)
theorem Za7:Yp (ck0 Ra Xz FN GN BN) b_Lgoals (Z5 Xz)=true:=by decide+kernel
noncomputable abbrev W7:Stmt:=top 21
noncomputable def R6:List Str:=["_law_raw","_law_begun","_law_trail","_law_done","_law_here","_law_step","_law_goals_here"]
theorem Z94:FnScope R6 ["_law_raw"] (Z3 W7):=⟨rfl,rfl,rfl,by decide+kernel,rfl,by decide+kernel,by decide+kernel⟩
noncomputable def Pl:Ss:=
 (.cons (.ret (.rev (.var 3)))
 .nil)
noncomputable def To:Ss:=
 (.cons (.set [4,5] (.mt .pop0 (.var 2) .nil))
 (.cons (.set [6] (.call 16 (.cons (.ix (.var 0) (.var 4)) .nil)))
 (.cons (.ite (.cmp .eq (.var 5) (.bf .len (.cons (.var 6) .nil))) (.cons (.expr (.mt .append (.var 3) (.cons (.var 4) .nil)))
 .nil) (.cons (.expr (.mt .append (.var 2) (.cons (.tup (.cons (.var 4) (.cons (.bin .add (.var 5) (.int 1)) .nil))) .nil)))
 (.cons (.ite (.cmp .notin (.ix (.var 6) (.var 5)) (.var 1)) (.cons (.expr (.mt .append (.var 1) (.cons (.ix (.var 6) (.var 5)) .nil)))
 (.cons (.expr (.mt .append (.var 2) (.cons (.tup (.cons (.ix (.var 6) (.var 5)) (.cons (.int 0) .nil))) .nil)))
 .nil)) .nil)
 .nil)))
 .nil)))
noncomputable def b_Lorder:Ss:=
 (.cons (.set [1] (.lst (.cons (.int 0) .nil)))
 (.cons (.set [2] (.lst (.cons (.tup (.cons (.int 0) (.cons (.int 0) .nil))) .nil)))
 (.cons (.set [3] (.lst .nil))
 (.cons (.while_ (.cmp .ne (.var 2) (.lst .nil)) To)
 Pl))))
theorem Zb5:Yp (ck0 R6 W7 FN GN BN) b_Lorder (Z5 W7)=true:=by decide+kernel
noncomputable abbrev Xv:Stmt:=top 22
noncomputable def R7:List Str:=["_law_raw","_law_order_here","_law_graph_here","_law_old","_law_node_here"]
theorem Z03:FnScope R7 ["_law_raw"] (Z3 Xv):=⟨rfl,rfl,rfl,by decide+kernel,rfl,by decide+kernel,by decide+kernel⟩
noncomputable def Qw:Ss:=
 (.cons (.ret (.var 2))
 .nil)
noncomputable def Tt:Ss:=
 (.cons (.expr (.mt .append (.var 2) (.cons (.var 4) .nil)))
 .nil)
noncomputable def Wb:Ss:=
 (.cons (.ite (.cmp .eq (.ix (.var 4) (.int 0)) (.str "test")) (.cons (.set [4] (.bin .add (.sl (.var 4) .no (.yes (.int 4))) (.tup (.cons (.mt .index1 (.var 1) (.cons (.ix (.var 4) (.int 4)) .nil)) (.cons (.mt .index1 (.var 1) (.cons (.ix (.var 4) (.int 5)) .nil)) .nil)))))
 .nil) .nil)
 Tt)
noncomputable def Pa:Ss:=
 (.cons (.set [4] (.ix (.var 0) (.var 3)))
 (.cons (.ite (.cmp .eq (.ix (.var 4) (.int 0)) (.str "sum")) (.cons (.set [4] (.bin .add (.sl (.var 4) .no (.yes (.int 5))) (.tup (.cons (.mt .index1 (.var 1) (.cons (.ix (.var 4) (.int 5)) .nil)) .nil))))
 .nil) .nil)
 Wb))
noncomputable def b_Lgraph:Ss:=
 (.cons (.set [1] (.call 17 (.cons (.var 0) .nil)))
 (.cons (.set [2] (.lst .nil))
 (.cons (.for_ [3] (.seq (.var 1)) Pa)
 Qw)))
theorem Zb6:Yp (ck0 R7 Xv FN GN BN) b_Lgraph (Z5 Xv)=true:=by decide+kernel
noncomputable abbrev W6:Stmt:=top 23
noncomputable def Re:List Str:=["_law_script","_law_start","_law_most","_law_head","_law_many","_law_mode"]
theorem Z12:FnScope Re ["_law_script","_law_start","_law_most"] (Z3 W6):=⟨rfl,rfl,rfl,by decide+kernel,rfl,by decide+kernel,by decide+kernel⟩
noncomputable def S9:Ss:=
 (.cons (.set [5] (.bin .mod (.var 3) (.int 3)))
 (.cons (.ret (.call 18 (.cons (.comp ["_law_k","_law_script","_law_start","_law_many","_law_mode"] [none,(some 0),(some 1),(some 4),(some 5)] [0] (.rng1 (.var 4)) .no (.call 15 (.cons (.call 11 (.cons (.var 1) (.cons (.bin .add (.bin .add (.var 2) (.int 1)) (.var 0)) .nil))) (.cons (.var 0) (.cons (.var 3) (.cons (.var 4) .nil)))))) .nil)))
 .nil))
noncomputable def b_Ldrawn:Ss:=
 (.cons (.set [3] (.call 12 (.cons (.call 11 (.cons (.var 0) (.cons (.var 1) .nil))) (.cons (.int 77) .nil))))
 (.cons (.set [4] (.bin .add (.int 1) (.bin .mod (.bin .fdiv (.var 3) (.int 6)) (.var 2))))
 (.cons (.ite (.cmp .eq (.bin .mod (.bin .fdiv (.var 3) (.int 3)) (.int 2)) (.int 0)) (.cons (.set [4] (.bf .max2 (.cons (.int 1) (.cons (.bf .min2 (.cons (.bin .sub (.bin .sub (.bf .len (.cons (.var 0) .nil)) (.var 1)) (.int 1)) (.cons (.var 2) .nil))) .nil))))
 .nil) .nil)
 S9)))
theorem Ze5:Yp (ck0 Re W6 FN GN BN) b_Ldrawn (Z5 W6)=true:=by decide+kernel
noncomputable abbrev X7:Stmt:=top 24
noncomputable def Vm:List Str:=["_law_graph_here","_law_one","_law_found","_law_at","_law_to"]
theorem Gh:FnScope Vm ["_law_graph_here","_law_one"] (Z3 X7):=⟨rfl,rfl,rfl,by decide+kernel,rfl,by decide+kernel,by decide+kernel⟩
noncomputable def Si:Ss:=
 (.cons (.ret (.var 2))
 .nil)
noncomputable def Sg:Ss:=
 (.cons (.set [3] (.bin .add (.var 3) (.int 1)))
 .nil)
noncomputable def Sq:Ss:=
 (.cons (.ite (.bop true (.cons (.cmp .ne (.var 4) (.var 1)) (.cons (.cmp .notin (.var 4) (.var 2)) .nil))) (.cons (.expr (.mt .append (.var 2) (.cons (.var 4) .nil)))
 .nil) .nil)
 .nil)
noncomputable def Sd:Ss:=
 (.cons (.for_ [4] (.seq (.call 16 (.cons (.ix (.var 0) (.ix (.var 2) (.var 3))) .nil))) Sq)
 Sg)
noncomputable def So:Ss:=
 (.cons (.set [2] (.lst (.cons (.int 0) .nil)))
 (.cons (.set [3] (.int 0))
 (.cons (.while_ (.cmp .lt (.var 3) (.bf .len (.cons (.var 2) .nil))) Sd)
 Si)))
noncomputable def b_Lwithout:Ss:=
 (.cons (.ite (.cmp .eq (.var 1) (.int 0)) (.cons (.ret (.lst .nil))
 .nil) .nil)
 So)
theorem En:Yp (ck0 Vm X7 FN GN BN) b_Lwithout (Z5 X7)=true:=by decide+kernel
noncomputable abbrev V9:Stmt:=top 25
noncomputable def Oe:List Str:=["_law_graph_here","_law_free","_law_over_here","_law_k"]
theorem Zg7:FnScope Oe ["_law_graph_here"] (Z3 V9):=⟨rfl,rfl,rfl,by decide+kernel,rfl,by decide+kernel,by decide+kernel⟩
noncomputable def Jl:Ss:=
 (.cons (.ret (.var 2))
 .nil)
noncomputable def J3:Ss:=
 (.cons (.expr (.mt .append (.var 2) (.cons (.comp ["_law_one","_law_k","_law_free"] [none,(some 3),(some 1)] [0] (.rng1 (.bf .len (.cons (.var 0) .nil))) (.yes (.cmp .notin (.var 1) (.ix (.var 2) (.var 0)))) (.var 0)) .nil)))
 .nil)
noncomputable def b_Lover:Ss:=
 (.cons (.set [1] (.comp ["_law_one","_law_graph_here"] [none,(some 0)] [0] (.rng1 (.bf .len (.cons (.var 0) .nil))) .no (.call 20 (.cons (.var 1) (.cons (.var 0) .nil)))))
 (.cons (.set [2] (.lst .nil))
 (.cons (.for_ [3] (.rng1 (.bf .len (.cons (.var 0) .nil))) J3)
 Jl)))
theorem Zs2:Yp (ck0 Oe V9 FN GN BN) b_Lover (Z5 V9)=true:=by decide+kernel
noncomputable abbrev V4:Stmt:=top 26
noncomputable def Ow:List Str:=["_law_graph_here","_law_found","_law_k","_law_to"]
theorem Zg0:FnScope Ow ["_law_graph_here"] (Z3 V4):=⟨rfl,rfl,rfl,by decide+kernel,rfl,by decide+kernel,by decide+kernel⟩
noncomputable def Jw:Ss:=
 (.cons (.ret (.var 1))
 .nil)
noncomputable def Jn:Ss:=
 (.cons (.ite (.cmp .le (.var 3) (.var 2)) (.cons (.expr (.mt .append (.var 1) (.cons (.tup (.cons (.var 2) (.cons (.var 3) .nil))) .nil)))
 .nil) .nil)
 .nil)
noncomputable def Jo:Ss:=
 (.cons (.for_ [3] (.seq (.call 16 (.cons (.ix (.var 0) (.var 2)) .nil))) Jn)
 .nil)
noncomputable def b_Lback:Ss:=
 (.cons (.set [1] (.lst .nil))
 (.cons (.for_ [2] (.rng1 (.bf .len (.cons (.var 0) .nil))) Jo)
 Jw))
theorem Zp9:Yp (ck0 Ow V4 FN GN BN) b_Lback (Z5 V4)=true:=by decide+kernel
noncomputable abbrev W0:Stmt:=top 27
noncomputable def Xw:List Str:=["_law_found","_law_due","_law_k"]
theorem Qf:FnScope Xw ["_law_found","_law_due"] (Z3 W0):=⟨rfl,rfl,rfl,by decide+kernel,rfl,by decide+kernel,by decide+kernel⟩
noncomputable def Qr:Ss:=
 (.cons (.ret (.bl true))
 .nil)
noncomputable def Ph:Ss:=
 (.cons (.ite (.not (.call 23 (.cons (.ix (.var 0) (.var 2)) (.cons (.ix (.var 1) (.var 2)) .nil)))) (.cons (.ret (.bl false))
 .nil) .nil)
 .nil)
noncomputable def Pf:Ss:=
 (.cons (.for_ [2] (.rng1 (.bf .len (.cons (.var 1) .nil))) Ph)
 Qr)
noncomputable def Tw:Ss:=
 (.cons (.ite (.cmp .ne (.bf .len (.cons (.var 0) .nil)) (.bf .len (.cons (.var 1) .nil))) (.cons (.ret (.bl false))
 .nil) .nil)
 Pf)
noncomputable def Tu:Ss:=
 (.cons (.ite (.bop false (.cons (.bop true (.cons (.bf .isinst (.cons (.var 1) (.cons (.ty .tuple) .nil))) (.cons (.not (.bf .isinst (.cons (.var 0) (.cons (.ty .tuple) .nil)))) .nil))) (.cons (.bop true (.cons (.bf .isinst (.cons (.var 1) (.cons (.ty .list) .nil))) (.cons (.not (.bf .isinst (.cons (.var 0) (.cons (.ty .list) .nil)))) .nil))) .nil))) (.cons (.ret (.bl false))
 .nil) .nil)
 Tw)
noncomputable def Vi:Ss:=
 (.cons (.ite (.bf .isinst (.cons (.var 1) (.cons (.ty .str) .nil))) (.cons (.ret (.bop true (.cons (.bf .isinst (.cons (.var 0) (.cons (.ty .str) .nil))) (.cons (.cmp .eq (.var 0) (.var 1)) .nil))))
 .nil) .nil)
 Tu)
noncomputable def Wa:Ss:=
 (.cons (.ite (.bf .isinst (.cons (.var 1) (.cons (.ty .int) .nil))) (.cons (.ret (.bop true (.cons (.bf .isinst (.cons (.var 0) (.cons (.ty .int) .nil))) (.cons (.not (.bf .isinst (.cons (.var 0) (.cons (.ty .bool) .nil)))) (.cons (.cmp .eq (.var 0) (.var 1)) .nil)))))
 .nil) .nil)
 Vi)
noncomputable def Xq:Ss:=
 (.cons (.ite (.bf .isinst (.cons (.var 1) (.cons (.ty .bool) .nil))) (.cons (.ret (.bop true (.cons (.bf .isinst (.cons (.var 0) (.cons (.ty .bool) .nil))) (.cons (.cmp .eq (.var 0) (.var 1)) .nil))))
 .nil) .nil)
 Wa)
noncomputable def b_Lalike:Ss:=
 (.cons (.ite (.cmp .is (.var 1) .non) (.cons (.ret (.cmp .is (.var 0) .non))
 .nil) .nil)
 Xq)
theorem Os:Yp (ck0 Xw W0 FN GN BN) b_Lalike (Z5 W0)=true:=by decide+kernel
noncomputable abbrev V5:Stmt:=top 28
noncomputable def Py:List Str:=["_law_graph_here","_law_over_here","_law_head","_law_inside","_law_more","_law_here"]
theorem Zf5:FnScope Py ["_law_graph_here","_law_over_here","_law_head"] (Z3 V5):=⟨rfl,rfl,rfl,by decide+kernel,rfl,by decide+kernel,by decide+kernel⟩
noncomputable def Np:Ss:=
 (.cons (.ret (.bf .sortedL (.cons (.var 3) .nil)))
 .nil)
noncomputable def G5:Ss:=
 (.cons (.set [5] (.mt .pop0 (.var 4) .nil))
 (.cons (.ite (.cmp .notin (.var 5) (.var 3)) (.cons (.expr (.mt .append (.var 3) (.cons (.var 5) .nil)))
 (.cons (.set [4] (.bin .add (.var 4) (.comp ["_law_k","_law_here","_law_graph_here"] [none,(some 5),(some 0)] [0] (.rng1 (.bf .len (.cons (.var 0) .nil))) (.yes (.cmp .isin (.var 1) (.call 16 (.cons (.ix (.var 2) (.var 0)) .nil)))) (.var 0))))
 .nil)) .nil)
 .nil))
noncomputable def b_Lring:Ss:=
 (.cons (.set [3] (.lst (.cons (.var 2) .nil)))
 (.cons (.set [4] (.comp ["_law_k","_law_to","_law_head","_law_over_here"] [none,none,(some 2),(some 1)] [0,1] (.seq (.call 22 (.cons (.var 0) .nil))) (.yes (.bop true (.cons (.cmp .eq (.var 1) (.var 2)) (.cons (.cmp .isin (.var 2) (.ix (.var 3) (.var 0))) .nil)))) (.var 0)))
 (.cons (.while_ (.cmp .ne (.var 4) (.lst .nil)) G5)
 Np)))
theorem Zq7:Yp (ck0 Py V5 FN GN BN) b_Lring (Z5 V5)=true:=by decide+kernel
noncomputable abbrev W1:Stmt:=top 29
noncomputable def R8:List Str:=["_law_one","_law_other","_law_both"]
theorem Z55:FnScope R8 ["_law_one","_law_other"] (Z3 W1):=⟨rfl,rfl,rfl,by decide+kernel,rfl,by decide+kernel,by decide+kernel⟩
noncomputable def b_Lapart:Ss:=
 (.cons (.set [2] (.comp ["_law_k","_law_other"] [none,(some 1)] [0] (.seq (.var 0)) (.yes (.cmp .isin (.var 0) (.var 1))) (.var 0)))
 (.cons (.ret (.bop false (.cons (.cmp .eq (.var 2) (.lst .nil)) (.cons (.cmp .eq (.bf .len (.cons (.var 2) .nil)) (.bf .min2 (.cons (.bf .len (.cons (.var 0) .nil)) (.cons (.bf .len (.cons (.var 1) .nil)) .nil)))) .nil))))
 .nil))
theorem Zc0:Yp (ck0 R8 W1 FN GN BN) b_Lapart (Z5 W1)=true:=by decide+kernel
noncomputable abbrev X1:Stmt:=top 30
theorem B1:FnScope inN ["_law_rings","_law_head"] (Z3 X1):=⟨rfl,rfl,rfl,by decide+kernel,rfl,by decide+kernel,by decide+kernel⟩
noncomputable def Vt:S:=
 (.set [2] (.comp ["_law_other","_law_head","_law_rings"] [none,(some 1),(some 0)] [0] (.fro (.var 0)) (.yes (.bop true (.cons (.cmp .ne (.var 0) (.var 1)) (.cons (.cmp .isin (.var 1) (.ix (.var 2) (.var 0))) .nil)))) (.var 0)))
theorem Gv:chkS (ck0 inN X1 FN GN BN) Vt ((Z5 X1).getD 0 (.Pass ⟨0,0,0,0⟩))=true:=by decide+kernel
noncomputable def T3:S:=
 (.ite (.cmp .eq (.var 2) (.lst .nil)) (.cons (.ret .non)
 .nil) .nil)
theorem Gc:chkS (ck0 inN X1 FN GN BN) T3 ((Z5 X1).getD 1 (.Pass ⟨0,0,0,0⟩))=true:=by decide+kernel
noncomputable abbrev Wy:Stmt:=top 31
noncomputable def O6:List Str:=["_law_found","_law_rings","_law_head"]
theorem Zi5:FnScope O6 ["_law_found","_law_rings"] (Z3 Wy):=⟨rfl,rfl,rfl,by decide+kernel,rfl,by decide+kernel,by decide+kernel⟩
noncomputable def Nt:Ss:=
 (.cons (.ret (.bl true))
 .nil)
noncomputable def Nb:Ss:=
 (.cons (.ite (.bop false (.cons (.cmp .notin (.var 2) (.var 0)) (.cons (.not (.call 23 (.cons (.ix (.var 0) (.var 2)) (.cons (.call 26 (.cons (.var 1) (.cons (.var 2) .nil))) .nil)))) .nil))) (.cons (.ret (.bl false))
 .nil) .nil)
 .nil)
noncomputable def Ju:Ss:=
 (.cons (.forK [2] (.var 1) Nb)
 Nt)
noncomputable def b_Lnest:Ss:=
 (.cons (.ite (.bop false (.cons (.not (.bf .isinst (.cons (.var 0) (.cons (.ty .dict) .nil)))) (.cons (.cmp .ne (.bf .len (.cons (.var 0) .nil)) (.bf .len (.cons (.var 1) .nil))) .nil))) (.cons (.ret (.bl false))
 .nil) .nil)
 Ju)
theorem Zp4:Yp (ck0 O6 Wy FN GN BN) b_Lnest (Z5 Wy)=true:=by decide+kernel
noncomputable abbrev Jy:Stmt:=top 32
noncomputable def Ze4:List Str:=["_law_script","_law_graph_here","_law_over_here","_law_handed","_law_rings","_law_k","_law_to","_law_found","_law_one","_law_other"]
theorem Zy4:FnScope Ze4 ["_law_script"] (Z3 Jy):=⟨rfl,rfl,rfl,by decide+kernel,rfl,by decide+kernel,by decide+kernel⟩
noncomputable def Bd:Ss:=
 (.cons (.expr (.mt .clearD (.var 7) .nil))
 (.cons (.ret (.bop true (.cons (.call 27 (.cons (.call 10 (.cons (.var 3) .nil)) (.cons (.var 4) .nil))) (.cons (.call 23 (.cons (.var 3) (.cons (.var 1) .nil))) .nil))))
 .nil))
noncomputable def Bt:Ss:=
 (.cons (.set [7] (.call 10 (.cons (.var 3) .nil)))
 (.cons (.ite (.not (.call 27 (.cons (.var 7) (.cons (.var 4) .nil)))) (.cons (.ret (.bl false))
 .nil) .nil)
 Bd))
noncomputable def Z61:Ss:=
 (.cons (.ite (.bop true (.cons (.cmp .ne (.var 8) (.var 9)) (.cons (.not (.call 25 (.cons (.ix (.var 4) (.var 8)) (.cons (.ix (.var 4) (.var 9)) .nil)))) .nil))) (.cons (.ret (.bl false))
 .nil) .nil)
 .nil)
noncomputable def Z10:Ss:=
 (.cons (.for_ [9] (.fro (.var 4)) Z61)
 .nil)
noncomputable def Z35:Ss:=
 (.cons (.forK [8] (.var 4) Z10)
 Bt)
noncomputable def Ba:Ss:=
 (.cons (.put (.var 4) (.var 6) (.bf .list1 (.cons (.var 7) .nil)))
 (.cons (.expr (.mt .append (.var 7) (.cons (.int 0) .nil)))
 .nil))
noncomputable def Z84:Ss:=
 (.cons (.ite (.bop true (.cons (.cmp .isin (.var 6) (.ix (.var 2) (.var 5))) (.cons (.cmp .notin (.var 6) (.var 4)) .nil))) (.cons (.set [7] (.call 9 (.cons (.var 3) (.cons (.var 6) .nil))))
 (.cons (.ite (.not (.call 23 (.cons (.var 7) (.cons (.call 24 (.cons (.var 1) (.cons (.var 2) (.cons (.var 6) .nil)))) .nil)))) (.cons (.ret (.bl false))
 .nil) .nil)
 Ba)) .nil)
 .nil)
noncomputable def b_law:Ss:=
 (.cons (.set [1] (.call 19 (.cons (.var 0) (.cons (.int 0) (.cons (.int 16) .nil)))))
 (.cons (.set [2] (.call 21 (.cons (.var 1) .nil)))
 (.cons (.set [3] (.bf .list1 (.cons (.var 1) .nil)))
 (.cons (.set [4] .dict0)
 (.cons (.for_ [5,6] (.seq (.call 22 (.cons (.var 1) .nil))) Z84)
 Z35)))))
theorem Y65:Yp (ck0 Ze4 Jy FN GN BN) b_law (Z5 Jy)=true:=by decide+kernel
set_option genInjectivity false in
structure Adr where
 mk::
 a_ways:Addr
 d_ways:FuncData
 a_comings:Addr
 d_comings:FuncData
 a_last_above:Addr
 d_last_above:FuncData
 a_last_above_all:Addr
 d_last_above_all:FuncData
 a_musts:Addr
 d_musts:FuncData
 a_stands_above:Addr
 d_stands_above:FuncData
 a_ways_back:Addr
 d_ways_back:FuncData
 a_heads:Addr
 d_heads:FuncData
 a_come_to:Addr
 d_come_to:FuncData
 a_ring:Addr
 d_ring:FuncData
 a_nest:Addr
 d_nest:FuncData
 a_Lcell:Addr
 d_Lcell:FuncData
 a_Lmixed:Addr
 d_Lmixed:FuncData
 a_Lgreat:Addr
 d_Lgreat:FuncData
 a_Lfar:Addr
 d_Lfar:FuncData
 a_Lnode:Addr
 d_Lnode:FuncData
 a_Lgoals:Addr
 d_Lgoals:FuncData
 a_Lorder:Addr
 d_Lorder:FuncData
 a_Lgraph:Addr
 d_Lgraph:FuncData
 a_Ldrawn:Addr
 d_Ldrawn:FuncData
 a_Lwithout:Addr
 d_Lwithout:FuncData
 a_Lover:Addr
 d_Lover:FuncData
 a_Lback:Addr
 d_Lback:FuncData
 a_Lalike:Addr
 d_Lalike:FuncData
 a_Lring:Addr
 d_Lring:FuncData
 a_Lapart:Addr
 d_Lapart:FuncData
 a_Linmost:Addr
 d_Linmost:FuncData
 a_Lnest:Addr
 d_Lnest:FuncData
 a_law:Addr
 d_law:FuncData
structure Tx(K:PySem.W.Frag)(mg:Str→Option Value)(t:Adr):Prop where
 mk::
 F_ways:Fun K "ways" "ways" Sn t.a_ways t.d_ways
 g_ways:mg "ways"=some (.ref t.a_ways)
 k_ways:PySem.W.keepIn K (.ref t.a_ways)=true
 b_ways:Ym K t.d_ways ["node"] []
 F_comings:Fun K "comings" "comings" Xj t.a_comings t.d_comings
 g_comings:mg "comings"=some (.ref t.a_comings)
 k_comings:PySem.W.keepIn K (.ref t.a_comings)=true
 b_comings:Ym K t.d_comings ["graph"] []
 F_last_above:Fun K "last_above" "last_above" Yf t.a_last_above t.d_last_above
 g_last_above:mg "last_above"=some (.ref t.a_last_above)
 k_last_above:PySem.W.keepIn K (.ref t.a_last_above)=true
 b_last_above:Ym K t.d_last_above ["told","one","other"] []
 F_last_above_all:Fun K "last_above_all" "last_above_all" Zp t.a_last_above_all t.d_last_above_all
 g_last_above_all:mg "last_above_all"=some (.ref t.a_last_above_all)
 k_last_above_all:PySem.W.keepIn K (.ref t.a_last_above_all)=true
 b_last_above_all:Ym K t.d_last_above_all ["told","places"] []
 F_musts:Fun K "musts" "musts" V3 t.a_musts t.d_musts
 g_musts:mg "musts"=some (.ref t.a_musts)
 k_musts:PySem.W.keepIn K (.ref t.a_musts)=true
 b_musts:Ym K t.d_musts ["graph"] []
 F_stands_above:Fun K "stands_above" "stands_above" Y1 t.a_stands_above t.d_stands_above
 g_stands_above:mg "stands_above"=some (.ref t.a_stands_above)
 k_stands_above:PySem.W.keepIn K (.ref t.a_stands_above)=true
 b_stands_above:Ym K t.d_stands_above ["musts","one","other"] []
 F_ways_back:Fun K "ways_back" "ways_back" Yu t.a_ways_back t.d_ways_back
 g_ways_back:mg "ways_back"=some (.ref t.a_ways_back)
 k_ways_back:PySem.W.keepIn K (.ref t.a_ways_back)=true
 b_ways_back:Ym K t.d_ways_back ["graph"] []
 F_heads:Fun K "heads" "heads" V8 t.a_heads t.d_heads
 g_heads:mg "heads"=some (.ref t.a_heads)
 k_heads:PySem.W.keepIn K (.ref t.a_heads)=true
 b_heads:Ym K t.d_heads ["graph"] []
 F_come_to:Fun K "come_to" "come_to" Xk t.a_come_to t.d_come_to
 g_come_to:mg "come_to"=some (.ref t.a_come_to)
 k_come_to:PySem.W.keepIn K (.ref t.a_come_to)=true
 b_come_to:Ym K t.d_come_to ["links","starts","taken"] []
 F_ring:Fun K "ring" "ring" Sk t.a_ring t.d_ring
 g_ring:mg "ring"=some (.ref t.a_ring)
 k_ring:PySem.W.keepIn K (.ref t.a_ring)=true
 b_ring:Ym K t.d_ring ["graph","head"] []
 F_nest:Fun K "nest" "nest" Se t.a_nest t.d_nest
 g_nest:mg "nest"=some (.ref t.a_nest)
 k_nest:PySem.W.keepIn K (.ref t.a_nest)=true
 b_nest:Ym K t.d_nest ["graph"] []
 F_Lcell:Fun K "_law_cell" "_law_cell" V1 t.a_Lcell t.d_Lcell
 g_Lcell:mg "_law_cell"=some (.ref t.a_Lcell)
 k_Lcell:PySem.W.keepIn K (.ref t.a_Lcell)=true
 b_Lcell:Ym K t.d_Lcell ["_law_script","_law_k"] []
 F_Lmixed:Fun K "_law_mixed" "_law_mixed" W3 t.a_Lmixed t.d_Lmixed
 g_Lmixed:mg "_law_mixed"=some (.ref t.a_Lmixed)
 k_Lmixed:PySem.W.keepIn K (.ref t.a_Lmixed)=true
 b_Lmixed:Ym K t.d_Lmixed ["_law_cell_here","_law_k"] []
 F_Lgreat:Fun K "_law_great" "_law_great" Xy t.a_Lgreat t.d_Lgreat
 g_Lgreat:mg "_law_great"=some (.ref t.a_Lgreat)
 k_Lgreat:PySem.W.keepIn K (.ref t.a_Lgreat)=true
 b_Lgreat:Ym K t.d_Lgreat ["_law_number"] []
 F_Lfar:Fun K "_law_far" "_law_far" Sj t.a_Lfar t.d_Lfar
 g_Lfar:mg "_law_far"=some (.ref t.a_Lfar)
 k_Lfar:PySem.W.keepIn K (.ref t.a_Lfar)=true
 b_Lfar:Ym K t.d_Lfar ["_law_number","_law_k","_law_many","_law_mode"] []
 F_Lnode:Fun K "_law_node" "_law_node" Vb t.a_Lnode t.d_Lnode
 g_Lnode:mg "_law_node"=some (.ref t.a_Lnode)
 k_Lnode:PySem.W.keepIn K (.ref t.a_Lnode)=true
 b_Lnode:Ym K t.d_Lnode ["_law_cell_here","_law_k","_law_many","_law_mode"] []
 F_Lgoals:Fun K "_law_goals" "_law_goals" Xz t.a_Lgoals t.d_Lgoals
 g_Lgoals:mg "_law_goals"=some (.ref t.a_Lgoals)
 k_Lgoals:PySem.W.keepIn K (.ref t.a_Lgoals)=true
 b_Lgoals:Ym K t.d_Lgoals ["_law_node_here"] []
 F_Lorder:Fun K "_law_order" "_law_order" W7 t.a_Lorder t.d_Lorder
 g_Lorder:mg "_law_order"=some (.ref t.a_Lorder)
 k_Lorder:PySem.W.keepIn K (.ref t.a_Lorder)=true
 b_Lorder:Ym K t.d_Lorder ["_law_raw"] []
 F_Lgraph:Fun K "_law_graph" "_law_graph" Xv t.a_Lgraph t.d_Lgraph
 g_Lgraph:mg "_law_graph"=some (.ref t.a_Lgraph)
 k_Lgraph:PySem.W.keepIn K (.ref t.a_Lgraph)=true
 b_Lgraph:Ym K t.d_Lgraph ["_law_raw"] []
 F_Ldrawn:Fun K "_law_drawn" "_law_drawn" W6 t.a_Ldrawn t.d_Ldrawn
 g_Ldrawn:mg "_law_drawn"=some (.ref t.a_Ldrawn)
 k_Ldrawn:PySem.W.keepIn K (.ref t.a_Ldrawn)=true
 b_Ldrawn:Ym K t.d_Ldrawn ["_law_script","_law_start","_law_most"] []
 F_Lwithout:Fun K "_law_without" "_law_without" X7 t.a_Lwithout t.d_Lwithout
 g_Lwithout:mg "_law_without"=some (.ref t.a_Lwithout)
 k_Lwithout:PySem.W.keepIn K (.ref t.a_Lwithout)=true
 b_Lwithout:Ym K t.d_Lwithout ["_law_graph_here","_law_one"] []
 F_Lover:Fun K "_law_over" "_law_over" V9 t.a_Lover t.d_Lover
 g_Lover:mg "_law_over"=some (.ref t.a_Lover)
 k_Lover:PySem.W.keepIn K (.ref t.a_Lover)=true
 b_Lover:Ym K t.d_Lover ["_law_graph_here"] []
 F_Lback:Fun K "_law_back" "_law_back" V4 t.a_Lback t.d_Lback
 g_Lback:mg "_law_back"=some (.ref t.a_Lback)
 k_Lback:PySem.W.keepIn K (.ref t.a_Lback)=true
 b_Lback:Ym K t.d_Lback ["_law_graph_here"] []
 F_Lalike:Fun K "_law_alike" "_law_alike" W0 t.a_Lalike t.d_Lalike
 g_Lalike:mg "_law_alike"=some (.ref t.a_Lalike)
 k_Lalike:PySem.W.keepIn K (.ref t.a_Lalike)=true
 b_Lalike:Ym K t.d_Lalike ["_law_found","_law_due"] []
 F_Lring:Fun K "_law_ring" "_law_ring" V5 t.a_Lring t.d_Lring
 g_Lring:mg "_law_ring"=some (.ref t.a_Lring)
 k_Lring:PySem.W.keepIn K (.ref t.a_Lring)=true
 b_Lring:Ym K t.d_Lring ["_law_graph_here","_law_over_here","_law_head"] []
 F_Lapart:Fun K "_law_apart" "_law_apart" W1 t.a_Lapart t.d_Lapart
 g_Lapart:mg "_law_apart"=some (.ref t.a_Lapart)
 k_Lapart:PySem.W.keepIn K (.ref t.a_Lapart)=true
 b_Lapart:Ym K t.d_Lapart ["_law_one","_law_other"] []
 F_Linmost:Fun K "_law_inmost" "_law_inmost" X1 t.a_Linmost t.d_Linmost
 g_Linmost:mg "_law_inmost"=some (.ref t.a_Linmost)
 k_Linmost:PySem.W.keepIn K (.ref t.a_Linmost)=true
 b_Linmost:Ym K t.d_Linmost ["_law_rings","_law_head"] []
 F_Lnest:Fun K "_law_nest" "_law_nest" Wy t.a_Lnest t.d_Lnest
 g_Lnest:mg "_law_nest"=some (.ref t.a_Lnest)
 k_Lnest:PySem.W.keepIn K (.ref t.a_Lnest)=true
 b_Lnest:Ym K t.d_Lnest ["_law_found","_law_rings"] []
 F_law:Fun K "law" "law" Jy t.a_law t.d_law
 g_law:mg "law"=some (.ref t.a_law)
 k_law:PySem.W.keepIn K (.ref t.a_law)=true
 b_law:Ym K t.d_law ["_law_script"] []
 z_enumerate:mg "enumerate"=none
 z_range:mg "range"=none
 z_len:mg "len"=none
 z_sorted:mg "sorted"=none
 z_list:mg "list"=none
 z_min:mg "min"=none
 z_max:mg "max"=none
 z_isinstance:mg "isinstance"=none
 z_tuple:mg "tuple"=none
 z_str:mg "str"=none
 z_int:mg "int"=none
 z_bool:mg "bool"=none
 z_dict:mg "dict"=none
theorem ents{K:PySem.W.Frag}{mg:Str→Option Value}{t:Adr}(T:Tx K mg t):∀x∈FN,Ent K mg x:=
 all_cons ⟨_,_,_,T.g_ways,T.k_ways,T.b_ways⟩ (all_cons ⟨_,_,_,T.g_comings,T.k_comings,T.b_comings⟩ (all_cons ⟨_,_,_,T.g_last_above,T.k_last_above,T.b_last_above⟩ (all_cons ⟨_,_,_,T.g_last_above_all,T.k_last_above_all,T.b_last_above_all⟩ (all_cons ⟨_,_,_,T.g_musts,T.k_musts,T.b_musts⟩ (all_cons ⟨_,_,_,T.g_stands_above,T.k_stands_above,T.b_stands_above⟩ (all_cons ⟨_,_,_,T.g_ways_back,T.k_ways_back,T.b_ways_back⟩ (all_cons ⟨_,_,_,T.g_heads,T.k_heads,T.b_heads⟩ (all_cons ⟨_,_,_,T.g_come_to,T.k_come_to,T.b_come_to⟩ (all_cons ⟨_,_,_,T.g_ring,T.k_ring,T.b_ring⟩ (all_cons ⟨_,_,_,T.g_nest,T.k_nest,T.b_nest⟩ (all_cons ⟨_,_,_,T.g_Lcell,T.k_Lcell,T.b_Lcell⟩ (all_cons ⟨_,_,_,T.g_Lmixed,T.k_Lmixed,T.b_Lmixed⟩ (all_cons ⟨_,_,_,T.g_Lgreat,T.k_Lgreat,T.b_Lgreat⟩ (all_cons ⟨_,_,_,T.g_Lfar,T.k_Lfar,T.b_Lfar⟩ (all_cons ⟨_,_,_,T.g_Lnode,T.k_Lnode,T.b_Lnode⟩ (all_cons ⟨_,_,_,T.g_Lgoals,T.k_Lgoals,T.b_Lgoals⟩ (all_cons ⟨_,_,_,T.g_Lorder,T.k_Lorder,T.b_Lorder⟩ (all_cons ⟨_,_,_,T.g_Lgraph,T.k_Lgraph,T.b_Lgraph⟩ (all_cons ⟨_,_,_,T.g_Ldrawn,T.k_Ldrawn,T.b_Ldrawn⟩ (all_cons ⟨_,_,_,T.g_Lwithout,T.k_Lwithout,T.b_Lwithout⟩ (all_cons ⟨_,_,_,T.g_Lover,T.k_Lover,T.b_Lover⟩ (all_cons ⟨_,_,_,T.g_Lback,T.k_Lback,T.b_Lback⟩ (all_cons ⟨_,_,_,T.g_Lalike,T.k_Lalike,T.b_Lalike⟩ (all_cons ⟨_,_,_,T.g_Lring,T.k_Lring,T.b_Lring⟩ (all_cons ⟨_,_,_,T.g_Lapart,T.k_Lapart,T.b_Lapart⟩ (all_cons ⟨_,_,_,T.g_Linmost,T.k_Linmost,T.b_Linmost⟩ (all_cons ⟨_,_,_,T.g_Lnest,T.k_Lnest,T.b_Lnest⟩ (all_cons ⟨_,_,_,T.g_law,T.k_law,T.b_law⟩ Z80))))))))))))))))))))))))))))
theorem blts{K:PySem.W.Frag}{mg:Str→Option Value}{t:Adr}(T:Tx K mg t):∀x∈BN,mg x=none:=
 all_cons T.z_enumerate (all_cons T.z_range (all_cons T.z_len (all_cons T.z_sorted (all_cons T.z_list (all_cons T.z_min (all_cons T.z_max (all_cons T.z_isinstance (all_cons T.z_tuple (all_cons T.z_str (all_cons T.z_int (all_cons T.z_bool (all_cons T.z_dict Z80))))))))))))
set_option maxHeartbeats 0 in
theorem Y61{K:PySem.W.Frag}{h:Heap}{mg:Str→Option Value}{f0 f1 f2 f3 f4 f5 f6 f7 f8 f9 f10 f11 f12 f13 f14 f15 f16 f17 f18 f19 f20 f21 f22 f23 f24 f25 f26 f27 f28:Addr}(X:K.In h)(G:h.Ns mainGlobals mg)
  {od0 an0 od1 an1 od2 an2 od3 an3 od4 an4 od5 an5 od6 an6 od7 an7 od8 an8 od9 an9 od10 an10 od11 an11 od12 an12 od13 an13 od14 an14 od15 an15 od16 an16 od17 an17 od18 an18 od19 an19 od20 an20 od21 an21 od22 an22 od23 an23 od24 an24 od25 an25 od26 an26 od27 an27 od28 an28:Option Addr} {sl0 sl1 sl2 sl3 sl4 sl5 sl6 sl7 sl8 sl9 sl10 sl11 sl12 sl13 sl14 sl15 sl16 sl17 sl18 sl19 sl20 sl21 sl22 sl23 sl24 sl25 sl26 sl27 sl28:Array (Option Value)} {oc0 kV0 dc0 pm0 cd0 ct0 oc1 kV1 dc1 pm1 cd1 ct1 oc2 kV2 dc2 pm2 cd2 ct2 oc3 kV3 dc3 pm3 cd3 ct3 oc4 kV4 dc4 pm4 cd4 ct4 oc5 kV5 dc5 pm5 cd5 ct5 oc6 kV6 dc6 pm6 cd6 ct6 oc7 kV7 dc7 pm7 cd7 ct7 oc8 kV8 dc8 pm8 cd8 ct8 oc9 kV9 dc9 pm9 cd9 ct9 oc10 kV10 dc10 pm10 cd10 ct10 oc11 kV11 dc11 pm11 cd11 ct11 oc12 kV12 dc12 pm12 cd12 ct12 oc13 kV13 dc13 pm13 cd13 ct13 oc14 kV14 dc14 pm14 cd14 ct14 oc15 kV15 dc15 pm15 cd15 ct15 oc16 kV16 dc16 pm16 cd16 ct16 oc17 kV17 dc17 pm17 cd17 ct17 oc18 kV18 dc18 pm18 cd18 ct18 oc19 kV19 dc19 pm19 cd19 ct19 oc20 kV20 dc20 pm20 cd20 ct20 oc21 kV21 dc21 pm21 cd21 ct21 oc22 kV22 dc22 pm22 cd22 ct22 oc23 kV23 dc23 pm23 cd23 ct23 oc24 kV24 dc24 pm24 cd24 ct24 oc25 kV25 dc25 pm25 cd25 ct25 oc26 kV26 dc26 pm26 cd26 ct26 oc27 kV27 dc27 pm27 cd27 ct27 oc28 kV28 dc28 pm28 cd28 ct28:Value}
  (a0:PySem.W.nsIn K mainGlobals "ways"=some (some (.ref f0))) (l0:K.lookup f0=some ⟨oc0,od0,.func (PySem.W.fnOf "ways" "ways" (Zj Sn) (Z5 Sn) (Z3 Sn) .none kV0 dc0 pm0 an0 cd0 ct0),sl0⟩) (c0:PySem.W.codeIn K cd0 "ways"=true) (k0:PySem.W.keepIn K (.ref f0)=true)
  (a1:PySem.W.nsIn K mainGlobals "comings"=some (some (.ref f1))) (l1:K.lookup f1=some ⟨oc1,od1,.func (PySem.W.fnOf "comings" "comings" (Zj Xj) (Z5 Xj) (Z3 Xj) .none kV1 dc1 pm1 an1 cd1 ct1),sl1⟩) (c1:PySem.W.codeIn K cd1 "comings"=true) (k1:PySem.W.keepIn K (.ref f1)=true)
  (a2:PySem.W.nsIn K mainGlobals "last_above"=some (some (.ref f2))) (l2:K.lookup f2=some ⟨oc2,od2,.func (PySem.W.fnOf "last_above" "last_above" (Zj Yf) (Z5 Yf) (Z3 Yf) .none kV2 dc2 pm2 an2 cd2 ct2),sl2⟩) (c2:PySem.W.codeIn K cd2 "last_above"=true) (k2:PySem.W.keepIn K (.ref f2)=true)
  (a3:PySem.W.nsIn K mainGlobals "last_above_all"=some (some (.ref f3))) (l3:K.lookup f3=some ⟨oc3,od3,.func (PySem.W.fnOf "last_above_all" "last_above_all" (Zj Zp) (Z5 Zp) (Z3 Zp) .none kV3 dc3 pm3 an3 cd3 ct3),sl3⟩) (c3:PySem.W.codeIn K cd3 "last_above_all"=true) (k3:PySem.W.keepIn K (.ref f3)=true)
  (a4:PySem.W.nsIn K mainGlobals "musts"=some (some (.ref f4))) (l4:K.lookup f4=some ⟨oc4,od4,.func (PySem.W.fnOf "musts" "musts" (Zj V3) (Z5 V3) (Z3 V3) .none kV4 dc4 pm4 an4 cd4 ct4),sl4⟩) (c4:PySem.W.codeIn K cd4 "musts"=true) (k4:PySem.W.keepIn K (.ref f4)=true)
  (a5:PySem.W.nsIn K mainGlobals "stands_above"=some (some (.ref f5))) (l5:K.lookup f5=some ⟨oc5,od5,.func (PySem.W.fnOf "stands_above" "stands_above" (Zj Y1) (Z5 Y1) (Z3 Y1) .none kV5 dc5 pm5 an5 cd5 ct5),sl5⟩) (c5:PySem.W.codeIn K cd5 "stands_above"=true) (k5:PySem.W.keepIn K (.ref f5)=true)
  (a6:PySem.W.nsIn K mainGlobals "ways_back"=some (some (.ref f6))) (l6:K.lookup f6=some ⟨oc6,od6,.func (PySem.W.fnOf "ways_back" "ways_back" (Zj Yu) (Z5 Yu) (Z3 Yu) .none kV6 dc6 pm6 an6 cd6 ct6),sl6⟩) (c6:PySem.W.codeIn K cd6 "ways_back"=true) (k6:PySem.W.keepIn K (.ref f6)=true)
  (a7:PySem.W.nsIn K mainGlobals "heads"=some (some (.ref f7))) (l7:K.lookup f7=some ⟨oc7,od7,.func (PySem.W.fnOf "heads" "heads" (Zj V8) (Z5 V8) (Z3 V8) .none kV7 dc7 pm7 an7 cd7 ct7),sl7⟩) (c7:PySem.W.codeIn K cd7 "heads"=true) (k7:PySem.W.keepIn K (.ref f7)=true)
  (a8:PySem.W.nsIn K mainGlobals "come_to"=some (some (.ref f8))) (l8:K.lookup f8=some ⟨oc8,od8,.func (PySem.W.fnOf "come_to" "come_to" (Zj Xk) (Z5 Xk) (Z3 Xk) .none kV8 dc8 pm8 an8 cd8 ct8),sl8⟩) (c8:PySem.W.codeIn K cd8 "come_to"=true) (k8:PySem.W.keepIn K (.ref f8)=true)
  (a9:PySem.W.nsIn K mainGlobals "ring"=some (some (.ref f9))) (l9:K.lookup f9=some ⟨oc9,od9,.func (PySem.W.fnOf "ring" "ring" (Zj Sk) (Z5 Sk) (Z3 Sk) .none kV9 dc9 pm9 an9 cd9 ct9),sl9⟩) (c9:PySem.W.codeIn K cd9 "ring"=true) (k9:PySem.W.keepIn K (.ref f9)=true)
  (a10:PySem.W.nsIn K mainGlobals "nest"=some (some (.ref f10))) (l10:K.lookup f10=some ⟨oc10,od10,.func (PySem.W.fnOf "nest" "nest" (Zj Se) (Z5 Se) (Z3 Se) .none kV10 dc10 pm10 an10 cd10 ct10),sl10⟩) (c10:PySem.W.codeIn K cd10 "nest"=true) (k10:PySem.W.keepIn K (.ref f10)=true)
  (a11:PySem.W.nsIn K mainGlobals "_law_cell"=some (some (.ref f11))) (l11:K.lookup f11=some ⟨oc11,od11,.func (PySem.W.fnOf "_law_cell" "_law_cell" (Zj V1) (Z5 V1) (Z3 V1) .none kV11 dc11 pm11 an11 cd11 ct11),sl11⟩) (c11:PySem.W.codeIn K cd11 "_law_cell"=true) (k11:PySem.W.keepIn K (.ref f11)=true)
  (a12:PySem.W.nsIn K mainGlobals "_law_mixed"=some (some (.ref f12))) (l12:K.lookup f12=some ⟨oc12,od12,.func (PySem.W.fnOf "_law_mixed" "_law_mixed" (Zj W3) (Z5 W3) (Z3 W3) .none kV12 dc12 pm12 an12 cd12 ct12),sl12⟩) (c12:PySem.W.codeIn K cd12 "_law_mixed"=true) (k12:PySem.W.keepIn K (.ref f12)=true)
  (a13:PySem.W.nsIn K mainGlobals "_law_great"=some (some (.ref f13))) (l13:K.lookup f13=some ⟨oc13,od13,.func (PySem.W.fnOf "_law_great" "_law_great" (Zj Xy) (Z5 Xy) (Z3 Xy) .none kV13 dc13 pm13 an13 cd13 ct13),sl13⟩) (c13:PySem.W.codeIn K cd13 "_law_great"=true) (k13:PySem.W.keepIn K (.ref f13)=true)
  (a14:PySem.W.nsIn K mainGlobals "_law_far"=some (some (.ref f14))) (l14:K.lookup f14=some ⟨oc14,od14,.func (PySem.W.fnOf "_law_far" "_law_far" (Zj Sj) (Z5 Sj) (Z3 Sj) .none kV14 dc14 pm14 an14 cd14 ct14),sl14⟩) (c14:PySem.W.codeIn K cd14 "_law_far"=true) (k14:PySem.W.keepIn K (.ref f14)=true)
  (a15:PySem.W.nsIn K mainGlobals "_law_node"=some (some (.ref f15))) (l15:K.lookup f15=some ⟨oc15,od15,.func (PySem.W.fnOf "_law_node" "_law_node" (Zj Vb) (Z5 Vb) (Z3 Vb) .none kV15 dc15 pm15 an15 cd15 ct15),sl15⟩) (c15:PySem.W.codeIn K cd15 "_law_node"=true) (k15:PySem.W.keepIn K (.ref f15)=true)
  (a16:PySem.W.nsIn K mainGlobals "_law_goals"=some (some (.ref f16))) (l16:K.lookup f16=some ⟨oc16,od16,.func (PySem.W.fnOf "_law_goals" "_law_goals" (Zj Xz) (Z5 Xz) (Z3 Xz) .none kV16 dc16 pm16 an16 cd16 ct16),sl16⟩) (c16:PySem.W.codeIn K cd16 "_law_goals"=true) (k16:PySem.W.keepIn K (.ref f16)=true)
  (a17:PySem.W.nsIn K mainGlobals "_law_order"=some (some (.ref f17))) (l17:K.lookup f17=some ⟨oc17,od17,.func (PySem.W.fnOf "_law_order" "_law_order" (Zj W7) (Z5 W7) (Z3 W7) .none kV17 dc17 pm17 an17 cd17 ct17),sl17⟩) (c17:PySem.W.codeIn K cd17 "_law_order"=true) (k17:PySem.W.keepIn K (.ref f17)=true)
  (a18:PySem.W.nsIn K mainGlobals "_law_graph"=some (some (.ref f18))) (l18:K.lookup f18=some ⟨oc18,od18,.func (PySem.W.fnOf "_law_graph" "_law_graph" (Zj Xv) (Z5 Xv) (Z3 Xv) .none kV18 dc18 pm18 an18 cd18 ct18),sl18⟩) (c18:PySem.W.codeIn K cd18 "_law_graph"=true) (k18:PySem.W.keepIn K (.ref f18)=true)
  (a19:PySem.W.nsIn K mainGlobals "_law_drawn"=some (some (.ref f19))) (l19:K.lookup f19=some ⟨oc19,od19,.func (PySem.W.fnOf "_law_drawn" "_law_drawn" (Zj W6) (Z5 W6) (Z3 W6) .none kV19 dc19 pm19 an19 cd19 ct19),sl19⟩) (c19:PySem.W.codeIn K cd19 "_law_drawn"=true) (k19:PySem.W.keepIn K (.ref f19)=true)
  (a20:PySem.W.nsIn K mainGlobals "_law_without"=some (some (.ref f20))) (l20:K.lookup f20=some ⟨oc20,od20,.func (PySem.W.fnOf "_law_without" "_law_without" (Zj X7) (Z5 X7) (Z3 X7) .none kV20 dc20 pm20 an20 cd20 ct20),sl20⟩) (c20:PySem.W.codeIn K cd20 "_law_without"=true) (k20:PySem.W.keepIn K (.ref f20)=true)
  (a21:PySem.W.nsIn K mainGlobals "_law_over"=some (some (.ref f21))) (l21:K.lookup f21=some ⟨oc21,od21,.func (PySem.W.fnOf "_law_over" "_law_over" (Zj V9) (Z5 V9) (Z3 V9) .none kV21 dc21 pm21 an21 cd21 ct21),sl21⟩) (c21:PySem.W.codeIn K cd21 "_law_over"=true) (k21:PySem.W.keepIn K (.ref f21)=true)
  (a22:PySem.W.nsIn K mainGlobals "_law_back"=some (some (.ref f22))) (l22:K.lookup f22=some ⟨oc22,od22,.func (PySem.W.fnOf "_law_back" "_law_back" (Zj V4) (Z5 V4) (Z3 V4) .none kV22 dc22 pm22 an22 cd22 ct22),sl22⟩) (c22:PySem.W.codeIn K cd22 "_law_back"=true) (k22:PySem.W.keepIn K (.ref f22)=true)
  (a23:PySem.W.nsIn K mainGlobals "_law_alike"=some (some (.ref f23))) (l23:K.lookup f23=some ⟨oc23,od23,.func (PySem.W.fnOf "_law_alike" "_law_alike" (Zj W0) (Z5 W0) (Z3 W0) .none kV23 dc23 pm23 an23 cd23 ct23),sl23⟩) (c23:PySem.W.codeIn K cd23 "_law_alike"=true) (k23:PySem.W.keepIn K (.ref f23)=true)
  (a24:PySem.W.nsIn K mainGlobals "_law_ring"=some (some (.ref f24))) (l24:K.lookup f24=some ⟨oc24,od24,.func (PySem.W.fnOf "_law_ring" "_law_ring" (Zj V5) (Z5 V5) (Z3 V5) .none kV24 dc24 pm24 an24 cd24 ct24),sl24⟩) (c24:PySem.W.codeIn K cd24 "_law_ring"=true) (k24:PySem.W.keepIn K (.ref f24)=true)
  (a25:PySem.W.nsIn K mainGlobals "_law_apart"=some (some (.ref f25))) (l25:K.lookup f25=some ⟨oc25,od25,.func (PySem.W.fnOf "_law_apart" "_law_apart" (Zj W1) (Z5 W1) (Z3 W1) .none kV25 dc25 pm25 an25 cd25 ct25),sl25⟩) (c25:PySem.W.codeIn K cd25 "_law_apart"=true) (k25:PySem.W.keepIn K (.ref f25)=true)
  (a26:PySem.W.nsIn K mainGlobals "_law_inmost"=some (some (.ref f26))) (l26:K.lookup f26=some ⟨oc26,od26,.func (PySem.W.fnOf "_law_inmost" "_law_inmost" (Zj X1) (Z5 X1) (Z3 X1) .none kV26 dc26 pm26 an26 cd26 ct26),sl26⟩) (c26:PySem.W.codeIn K cd26 "_law_inmost"=true) (k26:PySem.W.keepIn K (.ref f26)=true)
  (a27:PySem.W.nsIn K mainGlobals "_law_nest"=some (some (.ref f27))) (l27:K.lookup f27=some ⟨oc27,od27,.func (PySem.W.fnOf "_law_nest" "_law_nest" (Zj Wy) (Z5 Wy) (Z3 Wy) .none kV27 dc27 pm27 an27 cd27 ct27),sl27⟩) (c27:PySem.W.codeIn K cd27 "_law_nest"=true) (k27:PySem.W.keepIn K (.ref f27)=true)
  (a28:PySem.W.nsIn K mainGlobals "law"=some (some (.ref f28))) (l28:K.lookup f28=some ⟨oc28,od28,.func (PySem.W.fnOf "law" "law" (Zj Jy) (Z5 Jy) (Z3 Jy) .none kV28 dc28 pm28 an28 cd28 ct28),sl28⟩) (c28:PySem.W.codeIn K cd28 "law"=true) (k28:PySem.W.keepIn K (.ref f28)=true)
  (z0:PySem.W.nsIn K mainGlobals "enumerate"=some none) (z1:PySem.W.nsIn K mainGlobals "range"=some none) (z2:PySem.W.nsIn K mainGlobals "len"=some none) (z3:PySem.W.nsIn K mainGlobals "sorted"=some none) (z4:PySem.W.nsIn K mainGlobals "list"=some none) (z5:PySem.W.nsIn K mainGlobals "min"=some none) (z6:PySem.W.nsIn K mainGlobals "max"=some none) (z7:PySem.W.nsIn K mainGlobals "isinstance"=some none) (z8:PySem.W.nsIn K mainGlobals "tuple"=some none) (z9:PySem.W.nsIn K mainGlobals "str"=some none) (z10:PySem.W.nsIn K mainGlobals "int"=some none) (z11:PySem.W.nsIn K mainGlobals "bool"=some none) (z12:PySem.W.nsIn K mainGlobals "dict"=some none)
  :∃t:Adr,Tx K mg t∧t.a_law=f28∧∀(s:Shared) (v:Value),BindsTo s t.d_law ⟨[v],[]⟩ [("_law_script",v)]:=by
 have F0:=Ya (st:=Sn) l0 c0 k0
 have F1:=Ya (st:=Xj) l1 c1 k1
 have F2:=Ya (st:=Yf) l2 c2 k2
 have F3:=Ya (st:=Zp) l3 c3 k3
 have F4:=Ya (st:=V3) l4 c4 k4
 have F5:=Ya (st:=Y1) l5 c5 k5
 have F6:=Ya (st:=Yu) l6 c6 k6
 have F7:=Ya (st:=V8) l7 c7 k7
 have F8:=Ya (st:=Xk) l8 c8 k8
 have F9:=Ya (st:=Sk) l9 c9 k9
 have F10:=Ya (st:=Se) l10 c10 k10
 have F11:=Ya (st:=V1) l11 c11 k11
 have F12:=Ya (st:=W3) l12 c12 k12
 have F13:=Ya (st:=Xy) l13 c13 k13
 have F14:=Ya (st:=Sj) l14 c14 k14
 have F15:=Ya (st:=Vb) l15 c15 k15
 have F16:=Ya (st:=Xz) l16 c16 k16
 have F17:=Ya (st:=W7) l17 c17 k17
 have F18:=Ya (st:=Xv) l18 c18 k18
 have F19:=Ya (st:=W6) l19 c19 k19
 have F20:=Ya (st:=X7) l20 c20 k20
 have F21:=Ya (st:=V9) l21 c21 k21
 have F22:=Ya (st:=V4) l22 c22 k22
 have F23:=Ya (st:=W0) l23 c23 k23
 have F24:=Ya (st:=V5) l24 c24 k24
 have F25:=Ya (st:=W1) l25 c25 k25
 have F26:=Ya (st:=X1) l26 c26 k26
 have F27:=Ya (st:=Wy) l27 c27 k27
 have F28:=Ya (st:=Jy) l28 c28 k28
 exact⟨⟨f0,_,f1,_,f2,_,f3,_,f4,_,f5,_,f6,_,f7,_,f8,_,f9,_,f10,_,f11,_,f12,_,f13,_,f14,_,f15,_,f16,_,f17,_,f18,_,f19,_,f20,_,f21,_,f22,_,f23,_,f24,_,f25,_,f26,_,f27,_,f28,_⟩,⟨F0,PySem.W.mg_of X G a0,k0,.all (W8 (fun _=>rfl)),
  F1,PySem.W.mg_of X G a1,k1,.all (W8 (fun _=>rfl)),
  F2,PySem.W.mg_of X G a2,k2,.all (Qy (fun _ _ _=>rfl)),
  F3,PySem.W.mg_of X G a3,k3,.all (Vo (fun _ _=>rfl)),
  F4,PySem.W.mg_of X G a4,k4,.all (W8 (fun _=>rfl)),
  F5,PySem.W.mg_of X G a5,k5,.all (Qy (fun _ _ _=>rfl)),
  F6,PySem.W.mg_of X G a6,k6,.all (W8 (fun _=>rfl)),
  F7,PySem.W.mg_of X G a7,k7,.all (W8 (fun _=>rfl)),
  F8,PySem.W.mg_of X G a8,k8,.all (Qy (fun _ _ _=>rfl)),
  F9,PySem.W.mg_of X G a9,k9,.all (Vo (fun _ _=>rfl)),
  F10,PySem.W.mg_of X G a10,k10,.all (W8 (fun _=>rfl)),
  F11,PySem.W.mg_of X G a11,k11,.all (Vo (fun _ _=>rfl)),
  F12,PySem.W.mg_of X G a12,k12,.all (Vo (fun _ _=>rfl)),
  F13,PySem.W.mg_of X G a13,k13,.all (W8 (fun _=>rfl)),
  F14,PySem.W.mg_of X G a14,k14,.all (Zj0 (fun _ _ _ _=>rfl)),
  F15,PySem.W.mg_of X G a15,k15,.all (Zj0 (fun _ _ _ _=>rfl)),
  F16,PySem.W.mg_of X G a16,k16,.all (W8 (fun _=>rfl)),
  F17,PySem.W.mg_of X G a17,k17,.all (W8 (fun _=>rfl)),
  F18,PySem.W.mg_of X G a18,k18,.all (W8 (fun _=>rfl)),
  F19,PySem.W.mg_of X G a19,k19,.all (Qy (fun _ _ _=>rfl)),
  F20,PySem.W.mg_of X G a20,k20,.all (Vo (fun _ _=>rfl)),
  F21,PySem.W.mg_of X G a21,k21,.all (W8 (fun _=>rfl)),
  F22,PySem.W.mg_of X G a22,k22,.all (W8 (fun _=>rfl)),
  F23,PySem.W.mg_of X G a23,k23,.all (Vo (fun _ _=>rfl)),
  F24,PySem.W.mg_of X G a24,k24,.all (Qy (fun _ _ _=>rfl)),
  F25,PySem.W.mg_of X G a25,k25,.all (Vo (fun _ _=>rfl)),
  F26,PySem.W.mg_of X G a26,k26,.all (Vo (fun _ _=>rfl)),
  F27,PySem.W.mg_of X G a27,k27,.all (Vo (fun _ _=>rfl)),
  F28,PySem.W.mg_of X G a28,k28,.all (W8 (fun _=>rfl)),
  PySem.W.mg_none_of X G z0,
  PySem.W.mg_none_of X G z1,
  PySem.W.mg_none_of X G z2,
  PySem.W.mg_none_of X G z3,
  PySem.W.mg_none_of X G z4,
  PySem.W.mg_none_of X G z5,
  PySem.W.mg_none_of X G z6,
  PySem.W.mg_none_of X G z7,
  PySem.W.mg_none_of X G z8,
  PySem.W.mg_none_of X G z9,
  PySem.W.mg_none_of X G z10,
  PySem.W.mg_none_of X G z11,
  PySem.W.mg_none_of X G z12⟩,rfl,fun s v=> .of_eq rfl⟩
set_option hygiene false
local macro_rules | `(tactic| walk_at "ev")=>do
 let ids:=("tss ts te tes teo tit tcd tbop tt op_add_i op_add_s op_add_t op_add_l op_sub_i op_mul_i op_mul_l op_fdiv_i op_mod_i op_pow_i cm_lt_i cm_le_i cm_gt_i cm_eq cm_ne cm_in cm_notin cm_is_n cm_is_i cm_is_s cm_is_b cm_is_t cm_is_r cm_isnot_n cm_isnot_i cm_isnot_s cm_isnot_b cm_isnot_t cm_isnot_r eq_i eq_s eq_b eq_nn eq_is eq_si tru_b tru_i tru_n tru_t ix_t ix_g ix_s sl_s sl_t sl_l is_non is_bl is_int is_str is_tup tyNon tyBl tyInt tyStr tyTup tyLst tyDct bf_len_t bf_len_s bf_is bf_min bf_max bf_min1 bf_list bf_sorted bf_sortedL on_ref mt_clearD_r mk_clearD mt_append_r mt_get2_r mt_pop_r mt_index_r mt_extend_r mk_append mk_pop mk_get2 mk_index mk_extend tg_one tg_two it_r it_t it_g key_i key_s in_ss start0 List.map_cons List.map_nil List.length_cons List.length_nil List.cons_append List.nil_append List.append_nil List.replicate List.set_cons_zero List.set_cons_succ List.getElem?_cons_zero List.getElem?_cons_succ Nat.reduceAdd Nat.reduceSub Nat.sub_self Nat.zero_add decide_eq_true_eq ne_eq Int.reduceEq not_false_eq_true true_and Bool.not_eq_true' decide_eq_false_iff_not Bool.false_eq_true if_true if_false Bool.not_true Bool.not_false".splitOn " ").toArray.map fun s=>Lean.mkIdent s.toName
 `(tactic| simp only[$[$ids:ident],*])
def Kp(M M':Z2):Prop:=∃N,M'=M++N
theorem Kp.refl(M:Z2):Kp M M:=⟨[],(List.append_nil M).symm⟩
theorem Kp.app{M M':Z2}(h:Kp M M')(N:Z2):Kp M (M'++N):=by obtain⟨L,rfl⟩:=h;exact⟨L++N,by rw[List.append_assoc]⟩
theorem Kp.trans{M M' M2:Z2}(h:Kp M M')(g:Kp M' M2):Kp M M2:=by obtain⟨L,rfl⟩:=h;obtain⟨L2,rfl⟩:=g;exact⟨L++L2,by rw[List.append_assoc]⟩
theorem Kp.new(M N:Z2):Kp M (M++N):=⟨N,rfl⟩
theorem Kp.L{M M':Z2}{a:Nat}{xs:List D}(h:Kp M M')(e:Z7 M a=some xs):Z7 M' a=some xs:=by obtain⟨L,rfl⟩:=h;exact Z4 e
theorem Kp.W{M M':Z2}{a:Nat}{xs:List D}(h:Kp M M')(e:Zd M a=some xs):Zd M' a=some xs:=by obtain⟨L,rfl⟩:=h;exact Yh e
noncomputable def mixN(c k:Int):Int:=(c % 2147483647 * 48271+7919 * k * k+104729) % 2147483647
noncomputable def mix(c k:Int):Int:=mixN c k * mixN c k % 2147483629
theorem Zs5(c k:Int):0≤mixN c k:=Int.emod_nonneg _ (by decide)
theorem Zv4(c k:Int):mixN c k<2147483647:=Int.emod_lt_of_pos _ (by decide)
theorem Zl0(c k:Int):0≤mix c k:=Int.emod_nonneg _ (by decide)
theorem Zj3(c k:Int):mix c k<2147483629:=Int.emod_lt_of_pos _ (by decide)
noncomputable def Ro(ns:List Int)(k:Nat):Int:=ns.getD k 0
theorem qm{i j:Int}(h:0<j):qmod i j=i % j:=Zb2 h
theorem qd{i j:Int}(h:0<j):qdiv i j=i / j:=Zi2 h
theorem Z02{ns:List Int}(h:∀i∈ns,Bits bigN i)(k:Nat):Bits bigN (Ro ns k):=by
 unfold Ro
 rw[List.getD_eq_getElem?_getD]
 cases e:ns[k]? with
 | none=>exact(show Bits 1 0 by unfold Bits;omega).mono (by decide)
 | some v=>exact h v (List.mem_of_getElem? e)
theorem Zy1{xs:List D}{i:Int}{d:D}(h0:0≤i)(h:xs[i.toNat]?=some d):atI xs i=some d:=by
 have:=Oc h
 rwa[Int.toNat_of_nonneg h0] at this
theorem Zo2{xs:List D}{i:Int}(h0:0≤i)(h:i<xs.length):∃d,atI xs i=some d∧d∈xs:=by
 have hl:i.toNat<xs.length:=by omega
 exact⟨xs[i.toNat],Zy1 h0 (List.getElem?_eq_getElem hl),List.getElem_mem hl⟩
inductive Opd where
 | nm (x:Str) | no (i:Int)
noncomputable def Opd.d:Opd→D
 | .nm x=> .str x
 | .no i=> .int i
inductive Nd where
 | sum (x:Str) (a:Opd) (sg:Str) (b:Opd) (t:Nat) | test (a:Opd) (sg:Str) (b:Opd) (y n:Nat) | fin | spin
noncomputable def Nd.d:Nd→D
 | .sum x a sg b t=> .tup [.str "sum",.str x,a.d,.str sg,b.d,.int t]
 | .test a sg b y n=> .tup [.str "test",a.d,.str sg,b.d,.int y,.int n]
 | .fin=> .tup [.str "end"]
 | .spin=> .tup [.str "spin"]
noncomputable def Opd.ok:Opd→Bool
 | .nm x=>PyData.canLay0 (.str x)
 | .no _=>true
noncomputable def Nd.ok:Nd→Bool
 | .sum x a sg b _=>PyData.canLay0 (.str x)&&a.ok&&PyData.canLay0 (.str sg)&&b.ok
 | .test a sg b _ _=>a.ok&&PyData.canLay0 (.str sg)&&b.ok
 | .fin=>true
 | .spin=>true
noncomputable def Nd.gs:Nd→List Nat
 | .sum _ _ _ _ t=>[t]
 | .test _ _ _ y n=>[n,y]
 | .fin=>[]
 | .spin=>[]
noncomputable def Nd.to(f:Nat→Nat):Nd→Nd
 | .sum x a sg b t=> .sum x a sg b (f t)
 | .test a sg b y n=> .test a sg b (f y) (f n)
 | .fin=> .fin
 | .spin=> .spin
theorem Nd.gs_to(f:Nat→Nat)(d:Nd):(d.to f).gs=d.gs.map f:=by cases d<;>rfl
theorem Nd.ok_to(f:Nat→Nat)(d:Nd):(d.to f).ok=d.ok:=by cases d<;>rfl
theorem Nd.gs_two(d:Nd):d.gs.length≤2:=by cases d<;>simp[Nd.gs]
noncomputable def natD(l:List Nat):List D:=l.map fun(x:Nat)=>D.int (x:Int)
theorem Z6(l:List Nat):(natD l).length=l.length:=by unfold natD;simp
theorem Zy{l:List Nat}{k x:Nat}(h:l[k]?=some x):(natD l)[k]?=some (.int x):=by unfold natD;rw[List.getElem?_map,h];rfl
theorem Za8(l m:List Nat):natD (l++m)=natD l++natD m:=by unfold natD;rw[List.map_append]
theorem G2(l:List Nat):(natD l).all Yq=true:=by
 rw[List.all_eq_true]
 intro d h
 unfold natD at h
 obtain⟨x,_,rfl⟩:=List.mem_map.mp h
 rfl
theorem Zu3(x:Nat)(l:List Nat):inD (.int x) (natD l)=decide (x∈l):=by
 unfold inD natD
 rw[List.any_map]
 induction l with
 | nil=>rfl
 | cons y r ih=>
  rw[List.any_cons,ih]
  show(((y:Int)==(x:Int)) || decide (x∈r))=decide (x∈y::r)
  by_cases h:x=y
  ·subst h;simp
  ·have h':¬(y:Int)=(x:Int):=by omega
   simp[h,h']
theorem Vp{M:Z2}{a x:Nat}{l:List Nat}{B:Bool→Prop}(h:Z7 M a=some (natD l))(q:B (decide (x∈l))):inQ M (.int x) (.ref a) B:=
 .inl ⟨_,h,rfl,G2 l,by rw[Zu3];exact q⟩
noncomputable def wy(gr:List Nd)(k:Nat):List Nat:=match gr[k]? with
 | some d=>d.gs
 | none=>[]
theorem O9{gr:List Nd}{k:Nat}{d:Nd}(h:gr[k]?=some d):wy gr k=d.gs:=by unfold wy;rw[h]
theorem Qk{gr:List Nd}{k:Nat}{d:Nd}(h:gr[k]?=some d):(gr.map Nd.d)[k]?=some d.d:=by rw[List.getElem?_map,h];rfl
def Yx:DSp:=fun ds M Q _=>∃(a:Nat) (ns:List Int) (k:Nat),ds=[.ref a,.int k]∧Z7 M a=some (ns.map .int)∧Q (.int (Ro ns k)) M
def Y6:DSp:=fun ds M Q _=>∃c k:Int,ds=[.int c,.int k]∧0≤k∧k≤1000∧Q (.int (mix c k)) M
def Yc:DSp:=fun ds M Q _=>∃c:Int,ds=[.int c]∧Bits (bigN+1) c∧∀v,Q (.int v) M
def Wp:DSp:=fun ds M Q _=>∃(c m:Int) (k n:Nat),ds=[.int c,.int k,.int n,.int m]∧0≤c∧k<n∧n≤1000∧∀(t:Nat) M',t<n→Kp M M'→Q (.int t) M'
def Xf:DSp:=fun ds M Q _=>∃(c m:Int) (k n:Nat),ds=[.int c,.int k,.int n,.int m]∧Bits bigN c∧k<n∧n≤1000∧∀(d:Nd) M',(∀t∈d.gs,t<n)→d.ok=true→Kp M M'→Q d.d M'
def Yb:DSp:=fun ds M Q _=>∃d:Nd,ds=[d.d]∧Q (.ref M.length) (M++[.lst (natD d.gs)])
def Yz:DSp:=fun ds M Q _=>∃(a:Nat) (raw:List Nd),ds=[.ref a]∧Z7 M a=some (raw.map Nd.d)∧0<raw.length∧raw.length≤1000∧(∀d∈raw,∀t∈d.gs,t<raw.length)∧
 ∀O M' r,GT.Ord (wy raw) raw.length O→Kp M M'→Zd M' r=some (natD O)→M.length≤r→Q (.ref r) M'
def X5:DSp:=fun ds M Q _=>∃(a:Nat) (raw:List Nd),ds=[.ref a]∧Z7 M a=some (raw.map Nd.d)∧0<raw.length∧raw.length≤1000∧(∀d∈raw,∀t∈d.gs,t<raw.length)∧(∀d∈raw,d.ok=true)∧
 ∀(gr:List Nd) M' r,GT.Num (wy gr) gr.length→gr.length≤raw.length→(∀d∈gr,d.ok=true)→Kp M M'→Zd M' r=some (gr.map Nd.d)→M.length≤r→Q (.ref r) M'
section
variable{K:PySem.W.Frag}
theorem Zq1{Γ G}:RR ⟨K,Γ,G⟩ b_Lcell O4 Yx:=by
 rintro ds M Q Z ⟨a,ns,k,rfl,hm,q⟩
 simp only[b_Lcell,G4,O4]
 walk_at "ev"
 refine Y8 hm ?_
 walk_at "ev"
 split
 ·rename_i h
  have hk:k<ns.length:=by simpa using h
  refine ix_l hm (by rw[List.getElem?_map,List.getElem?_eq_getElem hk];rfl) ?_
  have e:Ro ns k=ns[k]:=by unfold Ro;rw[List.getD_eq_getElem?_getD,List.getElem?_eq_getElem hk];rfl
  rw[e] at q
  exact q
 ·rename_i h
  have hk:ns.length≤k:=by simpa using h
  have e:Ro ns k=0:=by unfold Ro;rw[List.getD_eq_getElem?_getD,List.getElem?_eq_none hk];rfl
  rw[e] at q
  exact q
theorem Za6{Γ G}:RR ⟨K,Γ,G⟩ b_Lmixed R9 Y6:=by
 rintro ds M Q Z ⟨c,k,rfl,h0,h1,q⟩
 simp only[b_Lmixed,R9]
 walk_at "ev"
 rw[qm (by decide),qm (by decide),qm (by decide)]
 have m1:=Zs5 c k
 have m2:=Zv4 c k
 exact⟨mulR (by decide) (by decide),mulL (by decide) (by decide),mulR (by omega) (by omega),mulL (by show -(2 ^ 64)<mixN c k;omega) (by show mixN c k<2 ^ 64;omega),q⟩
theorem Zd5{Γ G}:RR ⟨K,Γ,G⟩ b_Lgreat Ri Yc:=by
 rintro ds M Q Z ⟨c,rfl,hb,q⟩
 simp only[b_Lgreat,Ri]
 walk_at "ev"
 exact⟨⟨by decide,by decide,by decide⟩,Zi6 hb (show Bits 300 ((982451653:Int) ^ 3) by unfold Bits;decide) (by decide),⟨by decide,by decide,by decide⟩,mulL (by decide) (by decide),by decide,⟨by decide,by decide,by decide⟩,q _⟩
theorem Y54{Γ G}{M:Z2}{Q:DK}{c m:Int}{k n:Nat}{d:Option D}(h0:0≤c)(hk:k<n)(hn:n≤1000)(q:∀(t:Nat) M',t<n→Kp M M'→Q (.int t) M'):
  tss ⟨K,Γ,G⟩ noX Ol {nx:=fun _ M=>Q .non M,rt:=Q} [some (.int c),some (.int k),some (.int n),some (.int m),d] M:=by
 have qn:∀(i:Int) M',0≤i→i<n→Kp M M'→Q (.int i) M':=fun i M' a b k=>by
  have:=q i.toNat M' (by omega) k
  rwa[Int.toNat_of_nonneg a] at this
 have l1:tss ⟨K,Γ,G⟩ noX Ov {nx:=fun _ M=>Q .non M,rt:=Q} [some (.int c),some (.int k),some (.int n),some (.int m),d] M:=by
  simp only[Ov]
  walk_at "ev"
  have hp:(0:Int)<n:=by omega
  rw[qd (by decide),qm hp]
  exact⟨Xm (by decide) (by decide),by omega,qn _ _ (Int.emod_nonneg _ (by omega)) (Int.emod_lt_of_pos _ hp) (Kp.refl M)⟩
 have l2:tss ⟨K,Γ,G⟩ noX Pt {nx:=fun _ M=>Q .non M,rt:=Q} [some (.int c),some (.int k),some (.int n),some (.int m),d] M:=by
  simp only[Pt]
  walk_at "ev"
  split
  ·rw[qm (show(0:Int)<4 by decide),qd (show(0:Int)<128 by decide)]
   have r1:=Int.emod_nonneg (c / 128) (show(4:Int)≠0 by decide)
   have r2:=Int.emod_lt_of_pos (c / 128) (show(0:Int)<4 by decide)
   refine⟨Z1 (by decide),Xm (by decide) (by decide),?_⟩
   obtain⟨d',e1,e2⟩:=Zo2 (xs:=[.int 1,.int 2,.int 4,.int 8]) r1 (by simpa using r2)
   refine Zp6 (Z9 M _ []) e1 ?_
   simp only[List.mem_cons,List.not_mem_nil,or_false] at e2
   have kk:=Kp.new M [.lst [.int 1,.int 2,.int 4,.int 8]]
   have fin:∀j:Int,0<j→opD .mod (.int k) (.int j) (M++[.lst [.int 1,.int 2,.int 4,.int 8]]) (fun x M1=>opD .sub (.int k) x M1 Q):=by
    intro j hj
    rw[op_mod_i,op_sub_i,qm hj]
    have a1:=Int.emod_nonneg (k:Int) (show j≠0 by omega)
    have a2:(k:Int) % j≤k:=by
     have:=Int.emod_add_mul_ediv (k:Int) j
     have h2:0≤j * ((k:Int) / j):=Int.mul_nonneg (by omega) (Int.ediv_nonneg (by omega) (by omega))
     omega
    exact⟨by omega,qn _ _ (by omega) (by omega) kk⟩
   rcases e2 with rfl | rfl | rfl | rfl<;>exact fin _ (by decide)
  ·exact l1
 simp only[Ol]
 walk_at "ev"
 have r1:=Int.emod_nonneg (c / 128) (show(3:Int)≠0 by decide)
 have mn:∀x:Int,0≤x→0≤(if (n:Int) - 1<x then(n:Int) - 1 else x)∧(if (n:Int) - 1<x then(n:Int) - 1 else x)<n:=by
  intro x hx
  split<;>omega
 split
 ·refine⟨Xm (by decide) (by decide),?_⟩
  split
  ·rw[qm (show(0:Int)<3 by decide),qd (show(0:Int)<128 by decide)]
   refine⟨Xm (by decide) (by decide),?_⟩
   obtain⟨b1,b2⟩:=mn ((k:Int)+1+c / 128 % 3) (by omega)
   exact qn _ _ b1 b2 (Kp.refl M)
  ·exact l2
 ·exact l2
theorem Y07{Γ G}:RR ⟨K,Γ,G⟩ b_Lfar Fh Wp:=by
 rintro ds M Q Z ⟨c,m,k,n,rfl,h0,hk,hn,q⟩
 simp only[b_Lfar,Fh]
 walk_at "ev"
 split
 ·have hp:(0:Int)< (n:Int) - k:=by omega
  rw[qd (by decide),qm hp]
  have a1:=Int.emod_nonneg (c / 32768) (show(n:Int) - k≠0 by omega)
  have a2:=Int.emod_lt_of_pos (c / 32768) hp
  refine⟨Xm (by decide) (by decide),by omega,?_⟩
  generalize c / 32768 % ((n:Int) - k)=u at a1 a2
  split
  ·have:=q ((k:Int)+1+u).toNat M (by omega) (Kp.refl M)
   rwa[Int.toNat_of_nonneg (by omega)] at this
  ·simp only[Ed]
   walk_at "ev"
   rw[qm (by decide),qd (by decide)]
   have r1:=Int.emod_nonneg (c / 64) (show(2:Int)≠0 by decide)
   have r2:=Int.emod_lt_of_pos (c / 64) (show(0:Int)<2 by decide)
   refine⟨Z1 (by decide),Xm (by decide) (by decide),?_⟩
   obtain⟨d',e1,e2⟩:=Zo2 (xs:=[.int 0,.int k]) r1 (by simpa using r2)
   refine Zp6 (Z9 M _ []) e1 ?_
   simp only[List.mem_cons,List.not_mem_nil,or_false] at e2
   rcases e2 with rfl | rfl
   ·exact q 0 _ (by omega) (Kp.new M _)
   ·exact q k _ hk (Kp.new M _)
 ·exact Y54 h0 hk hn q
end
section
variable{K:PySem.W.Frag}
theorem Zb3{Γ G}:RR ⟨K,Γ,G⟩ b_Lgoals Ra Yb:=by
 rintro ds M Q Z ⟨d,rfl,q⟩
 simp only[b_Lgoals,Ra]
 cases d with
 | sum x a sg b t=>
  simp only[Nd.d]
  walk_at "ev"
  refine⟨_,rfl,?_⟩
  walk_at "ev"
  exact⟨_,rfl,Z1 (by decide),q⟩
 | test a sg b y n=>
  simp only[Nd.d]
  walk_at "ev"
  refine⟨_,rfl,?_⟩
  walk_at "ev"
  rw[if_neg (by decide+kernel)]
  simp only[Vn]
  walk_at "ev"
  refine⟨_,rfl,?_⟩
  walk_at "ev"
  exact⟨_,rfl,_,rfl,Z1 (by decide),q⟩
 | fin=>
  simp only[Nd.d]
  walk_at "ev"
  refine⟨_,rfl,?_⟩
  walk_at "ev"
  rw[if_neg (by decide+kernel)]
  simp only[Vn]
  walk_at "ev"
  refine⟨_,rfl,?_⟩
  walk_at "ev"
  rw[if_neg (by decide+kernel)]
  simp only[S7]
  walk_at "ev"
  exact⟨Z1 (by decide),q⟩
 | spin=>
  simp only[Nd.d]
  walk_at "ev"
  refine⟨_,rfl,?_⟩
  walk_at "ev"
  rw[if_neg (by decide+kernel)]
  simp only[Vn]
  walk_at "ev"
  refine⟨_,rfl,?_⟩
  walk_at "ev"
  rw[if_neg (by decide+kernel)]
  simp only[S7]
  walk_at "ev"
  exact⟨Z1 (by decide),q⟩
theorem pick{M:Z2}{a:Nat}{xs:List D}{i:Int}{F:D→Prop}(h:Z7 M a=some xs)(h0:0≤i)(h1:i<xs.length)(q:∀d∈xs,F d):ixD M (.ref a) (.int i) F:=by
 obtain⟨d,e1,e2⟩:=Zo2 h0 h1
 exact Zp6 h e1 (q d e2)
theorem W2{M:Z2}{a:Nat}{xs:List D}{i m:Int}{F:D→Prop}(h:Z7 M a=some xs)(h1:m=xs.length)(h2:0<m)(q:∀d∈xs,F d):ixD M (.ref a) (.int (qmod i m)) F:=by
 rw[qm h2]
 exact pick h (Int.emod_nonneg _ (by omega)) (by rw[←h1];exact Int.emod_lt_of_pos _ h2) q
theorem Zb4{M:Z2}{a:Nat}{x y:D}{i:Int}{F:D→Prop}(h:Z7 M a=some [x,y])(q1:F x)(q2:F y):ixD M (.ref a) (.int (qdiv (qmod i 4) 3)) F:=by
 rw[qm (by decide),qd (by decide)]
 have r1:=Int.emod_nonneg i (show(4:Int)≠0 by decide)
 have r2:=Int.emod_lt_of_pos i (show(0:Int)<4 by decide)
 refine pick h (by omega) (by simp only[List.length_cons,List.length_nil];omega) fun d hd=>?_
 simp only[List.mem_cons,List.not_mem_nil,or_false] at hd
 rcases hd with rfl | rfl
 ·exact q1
 ·exact q2
theorem Fa{M:Z2}{a:Nat}{x:Str}{v i:Int}{F:D→Prop}(h:Z7 M a=some [.str x,.int v])(hx:PyData.canLay0 (.str x)=true)(q:∀o:Opd,o.ok=true→F o.d):ixD M (.ref a) (.int (qdiv (qmod i 4) 3)) F:=Zb4 h (q (.nm x) hx) (q (.no v) rfl)
theorem Jf{xs:List Str}{d:D}(h:d∈xs.map D.str)(ok:(xs.all fun x=>PyData.canLay0 (.str x))=true):∃x,d= .str x∧PyData.canLay0 (.str x)=true:=by
 obtain⟨x,hx,rfl⟩:=List.mem_map.mp h
 rw[List.all_eq_true] at ok
 exact⟨x,rfl,ok x hx⟩
theorem Zv7{Γ G}(g2:Γ[12]?=some Y6)(g3:Γ[13]?=some Yc)(g4:Γ[14]?=some Wp):RR ⟨K,Γ,G⟩ b_Lnode Ob Xf:=by
 rintro ds M Q Z ⟨c,m,k,n,rfl,hb,hk,hn,q⟩
 simp only[b_Lnode,Ob]
 walk_at "ev"
 simp only[g2]
 refine⟨c,k,rfl,by omega,by omega,?_⟩
 have m1:=Zl0 c k
 have m2:=Zj3 c k
 generalize mix c k=u at m1 m2
 have hbits:Bits (bigN+1) (c+u):=hb.add ((show Bits 31 u by unfold Bits;omega).mono (by decide))
 walk_at "ev"
 simp only[g3,g4]
 have near:∃t:Nat,t<n∧(if (n:Int) - 1< (k:Int)+1 then(n:Int) - 1 else(k:Int)+1)=t:=by
  split
  ·exact⟨n - 1,by omega,by omega⟩
  ·exact⟨k+1,by omega,by omega⟩
 obtain⟨nr,hnr,enr⟩:=near
 simp only[enr]
 have cd:∀(i j:Int),0<j→j<2 ^ 64→Ev i j:=fun i j a b=>Xm a b
 refine⟨Z1 (by decide),cd _ _ (by decide) (by decide),W2 (Z9 M _ []) rfl (by decide) fun d0 h0=>?_⟩
 obtain⟨x0,rfl,ok_x0⟩:=Jf (xs:=["x","y","z1","z"]) h0 (by decide+kernel)
 refine⟨cd _ _ (by decide) (by decide),Z1 (by decide),cd _ _ (by decide) (by decide),cd _ _ (by decide) (by decide),?_⟩
 refine Fa (Z9 _ _ []) ok_x0 fun o1 ok1=>?_
 refine⟨cd _ _ (by decide) (by decide),W2 (Z4 (Z9 M _ [])) rfl (by decide) fun d2 h2=>?_⟩
 obtain⟨x2,rfl,ok_x2⟩:=Jf (xs:=["x","y","z1","z"]) h2 (by decide+kernel)
 refine⟨c+u,rfl,hbits,fun v=>⟨Z1 (by decide),cd _ _ (by decide) (by decide),cd _ _ (by decide) (by decide),Fa (Z9 _ _ []) ok_x2 fun o2 ok2=>?_⟩⟩
 refine⟨u,m,k,n,rfl,m1,hk,hn,fun t M1 ht k1=>?_⟩
 have nmL:Z7 M1 M.length=some [.str "x",.str "y",.str "z1",.str "z"]:=k1.L (Z4 (Z4 (Z9 M _ [])))
 have kM:Kp M M1:=Kp.trans (((Kp.new M _).app _).app _) k1
 walk_at "ev"
 split
 ·refine⟨Z1 (by decide),cd _ _ (by decide) (by decide),W2 (Z9 M1 _ []) rfl (by decide) fun d4 h4=>?_⟩
  obtain⟨sg,rfl,ok_sg⟩:=Jf (xs:=["+","-","/","rest","&","^"]) h4 (by decide+kernel)
  refine⟨cd _ _ (by decide) (by decide),W2 (Z4 nmL) rfl (by decide) fun d5 h5=>?_⟩
  obtain⟨x5,rfl,ok_x5⟩:=Jf (xs:=["x","y","z1","z"]) h5 (by decide+kernel)
  refine⟨Z1 (by decide),cd _ _ (by decide) (by decide),W2 (Z9 _ _ []) rfl (by decide) fun d6 h6=>?_⟩
  obtain⟨t6,ht6,rfl⟩:∃t6:Nat,t6<n∧d6= .int t6:=by
   simp only[List.mem_cons,List.not_mem_nil,or_false] at h6
   rcases h6 with rfl | rfl | rfl | rfl
   ·exact⟨nr,hnr,rfl⟩
   ·exact⟨nr,hnr,rfl⟩
   ·exact⟨nr,hnr,rfl⟩
   ·exact⟨t,ht,rfl⟩
  refine⟨Z1 (by decide),q (.sum x5 o1 sg o2 t6) _ ?_ (by simp only[Nd.ok,ok_x5,ok1,ok_sg,ok2,Bool.and_self]) ((kM.app _).app _)⟩
  intro y hy
  simp only[Nd.gs,List.mem_singleton] at hy
  omega
 ·simp only[Ja]
  walk_at "ev"
  split
  ·simp only[g4]
   have mq:=Int.emod_nonneg (u * 48271) (show(2147483629:Int)≠0 by decide)
   refine⟨mulR (by decide) (by decide),?_⟩
   rw[qm (show(0:Int)<2147483629 by decide)]
   refine⟨_,m,k,n,rfl,mq,hk,hn,fun t2 M2 ht2 k2=>?_⟩
   walk_at "ev"
   refine⟨Z1 (by decide),cd _ _ (by decide) (by decide),W2 (Z9 _ _ []) rfl (by decide) fun d6 h6=>?_⟩
   obtain⟨t6,ht6,rfl⟩:∃t6:Nat,t6<n∧d6= .int t6:=by
    simp only[List.mem_cons,List.not_mem_nil,or_false] at h6
    rcases h6 with rfl | rfl | rfl | rfl
    ·exact⟨nr,hnr,rfl⟩
    ·exact⟨nr,hnr,rfl⟩
    ·exact⟨nr,hnr,rfl⟩
    ·exact⟨t2,ht2,rfl⟩
   refine⟨Z1 (by decide),cd _ _ (by decide) (by decide),W2 (Z9 _ _ []) rfl (by decide) fun d7 h7=>?_⟩
   obtain⟨sg,rfl,ok_sg⟩:=Jf (xs:=["<","="]) h7 (by decide+kernel)
   refine⟨Z1 (by decide),q (.test o1 sg o2 t t6) _ ?_ (by simp only[Nd.ok,ok1,ok_sg,ok2,Bool.and_self]) (((kM.trans k2).app _).app _)⟩
   intro y hy
   simp only[Nd.gs,List.mem_cons,List.not_mem_nil,or_false] at hy
   omega
  ·simp only[Ni]
   walk_at "ev"
   refine⟨Z1 (by decide),Z1 (by decide),Z1 (by decide),W2 (Z9 _ _ []) rfl (by decide) fun d6 h6=>?_⟩
   simp only[List.mem_cons,List.not_mem_nil,or_false] at h6
   rcases h6 with rfl | rfl
   ·exact q .fin _ (fun y hy=>by cases hy) rfl (kM.app _)
   ·exact q .spin _ (fun y hy=>by cases hy) rfl (kM.app _)
end
section
variable{K:PySem.W.Frag}
noncomputable def trD(T:List (Nat×Nat)):List D:=T.map fun p=>D.tup [.int (p.1:Nat),.int (p.2:Nat)]
theorem Z89(T U:List (Nat×Nat)):trD (T++U)=trD T++trD U:=by unfold trD;rw[List.map_append]
theorem O1(T:List (Nat×Nat))(h s:Nat):trD (T++[(h,s)])=trD T++[.tup [.int (h:Nat),.int (s:Nat)]]:=Z89 _ _
theorem Y9(l:List Nat)(x:Nat):natD (l++[x])=natD l++[.int (x:Nat)]:=Za8 _ _
theorem Gj(T:List (Nat×Nat)):(trD T).length=T.length:=by unfold trD;simp
noncomputable def trP(T:List (Nat×Nat)):List PyData:=T.map fun p=>PyData.tuple [.int (p.1:Nat),.int (p.2:Nat)]
theorem Zl4{M:Z2}:∀T:List (Nat×Nat),PDs M (trP T) (trD T)
 | []=>rfl
 | p::r=>⟨_,_,rfl,⟨_,rfl,⟨_,_,rfl,rfl,⟨_,_,rfl,rfl,rfl⟩⟩⟩,Zl4 r⟩
theorem Z48:∀T:List (Nat×Nat),PyData.canLayAll0 (trP T)=true
 | []=>rfl
 | p::r=>by
  show PyData.canLayAll0 (PyData.tuple [.int (p.1:Nat),.int (p.2:Nat)]::trP r)=true
  unfold PyData.canLayAll0
  rw[Z48 r]
  rfl
theorem Nl{M:Z2}{x y:Nat}{T:List (Nat×Nat)}{B:Bool→Prop}(h1:Z7 M x=some (trD T))(h2:Z7 M y=some [])(q:B T.isEmpty):eqD M (.ref x) (.ref y) B:=by
 refine .inl ⟨.list (trP T),.list [],⟨x,_,rfl,h1,Zl4 T⟩,⟨y,_,rfl,h2,rfl⟩,Z48 T,rfl,?_,?_⟩
 ·exact Nat.le_trans (Nat.min_le_right _ _) (by decide)
 ·cases T with
  | nil=>exact q
  | cons p r=>exact q
theorem B3{Γ G}(g6:Γ[16]?=some Yb){M:Z2}{a h s:Nat}{raw:List Nd}(hr:Z7 M a=some (raw.map Nd.d))(h1:raw.length≤1000)(hg:∀d∈raw,∀t∈d.gs,t<raw.length){B F:List Nat}{T:List (Nat×Nat)}{Q:DK}{C bk:DEnv→Z2→Prop}{d4 d5 d6:Option D}
  (w:GT.Wk (wy raw) raw.length B (T++[(h,s)]) F) (N:Z2)
  (q:∀B2 T2 F2 N2 d4 d5 d6,GT.wkM raw.length B2 T2<GT.wkM raw.length B (T++[(h,s)])→GT.Wk (wy raw) raw.length B2 T2 F2→C [some (.ref a),some (.ref M.length),some (.ref (M.length+1)),some (.ref (M.length+2)),d4,d5,d6] (M++(.lst (natD B2):: .lst (trD T2):: .lst (natD F2)::N2))):
  tss ⟨K,Γ,G⟩ noX To {nx:=C,rt:=Q,bk:=bk,ct:=C} [some (.ref a),some (.ref M.length),some (.ref (M.length+1)),some (.ref (M.length+2)),d4,d5,d6] (M++(.lst (natD B):: .lst (trD (T++[(h,s)])):: .lst (natD F)::N)):=by
 have hB:h∈B:=(w.mem h).mpr (.inl ⟨s,by simp⟩)
 have hh:=w.bl h hB
 obtain⟨d,hd⟩:∃d,raw[h]?=some d:=⟨_,List.getElem?_eq_getElem hh⟩
 have ew:wy raw h=d.gs:=O9 hd
 have hst:=w.steps h s (by simp)
 rw[ew] at hst
 have two:=d.gs_two
 have small:=w.small
 rw[List.length_append] at small
 have room:=w.room
 have eT:trD (T++[(h,s)])=trD T++[.tup [.int h,.int s]]:=Z89 _ _
 simp only[To]
 walk_at "ev"
 refine⟨Zi (by rw[Yw];rfl),_,.tup [.int h,.int s],by rw[Xp];rfl,by rw[eT];simp,?_⟩
 walk_at "ev"
 rw[Wn,eT,List.dropLast_concat]
 walk_at "ev"
 refine ix_l (Z4 hr) (Qk hd) ?_
 simp only[g6]
 refine⟨d,rfl,?_⟩
 walk_at "ev"
 rw[List.append_assoc]
 simp only[List.cons_append]
 have el:(M++ .lst (natD B):: .lst (trD T):: .lst (natD F)::N).length=M.length+(N.length+3):=by simp
 rw[el]
 have rG:∀b t f,Z7 (M++ .lst b:: .lst t:: .lst f::(N++[.lst (natD d.gs)])) (M.length+(N.length+3))=some (natD d.gs):=by
  intro b t f
  rw[Yw]
  exact Z9 N _ []
 have rB:∀b N',Z7 (M++ .lst b::N') M.length=some b:=fun b N'=>Z9 M _ _
 have rT:∀b t N',Z7 (M++ .lst b:: .lst t::N') (M.length+1)=some t:=fun b t N'=>by rw[Yw];rfl
 have rF:∀b t f N',Z7 (M++ .lst b:: .lst t:: .lst f::N') (M.length+2)=some f:=fun b t f N'=>by rw[Yw];rfl
 have wT:∀b t N',Zd (M++ .lst b:: .lst t::N') (M.length+1)=some t:=fun b t N'=>by rw[Xp];rfl
 have wF:∀b t f N',Zd (M++ .lst b:: .lst t:: .lst f::N') (M.length+2)=some f:=fun b t f N'=>by rw[Xp];rfl
 generalize M.length+(N.length+3)=gp at rG
 refine Y8 (rG _ _ _) ?_
 walk_at "ev"
 rw[Z6]
 simp only[List.length_cons,List.length_nil] at small
 split
 ·rename_i e
  have es:s=d.gs.length:=by omega
  refine⟨Zi (rF _ _ _ _),_,wF _ _ _ _,by rw[Z6];exact Z8 (by omega),?_⟩
  rw[Wn]
  walk_at "ev"
  rw[←Y9]
  exact q _ _ _ _ _ _ _ (GT.Z90 (by omega)) (w.close (by rw[ew];exact es))
 ·rename_i e
  have es:s<d.gs.length:=by omega
  obtain⟨y,hy⟩:∃y,d.gs[s]?=some y:=⟨_,List.getElem?_eq_getElem es⟩
  have hyn:y<raw.length:=hg d (List.mem_of_getElem? hd) y (List.mem_of_getElem? hy)
  refine⟨Zi (rT _ _ _),Z1 (by decide),_,wT _ _ _,by rw[Gj];exact Z8 (by omega),?_⟩
  rw[Wn]
  walk_at "ev"
  refine ix_l (rG _ _ _) (Zy hy) ?_
  refine Vp (rB _ _) ?_
  have e1:trD T++[.tup [.int h,.int ((s:Int)+1)]]=trD (T++[(h,s+1)]):=(O1 T h (s+1)).symm
  rw[e1]
  by_cases hyB:y∈B
  ·rw[decide_eq_true hyB,if_neg (by decide)]
   exact q _ _ _ _ _ _ _ (GT.Zh5 (by omega)) (w.pass (by rw[ew];exact hy) hyB)
  ·rw[decide_eq_false hyB,if_pos rfl]
   have w2:=w.open (by rw[ew];exact hy) hyn hyB
   have rm:=w2.room
   rw[List.length_append,List.length_singleton] at rm
   refine⟨Zi (rB _ _),ix_l (rG _ _ _) (Zy hy) ⟨_,Za M _ _,by rw[Z6];exact Z8 (by omega),?_⟩⟩
   rw[Xg]
   refine⟨Zi (rT _ _ _),ix_l (rG _ _ _) (Zy hy) ⟨Z1 (by decide),_,wT _ _ _,by rw[Gj,List.length_append,List.length_singleton];exact Z8 (by omega),?_⟩⟩
   rw[Wn]
   walk_at "ev"
   have e2:trD (T++[(h,s+1)])++[.tup [.int y,.int 0]]=trD (T++[(h,s+1),(y,0)]):=by
    rw[show T++[(h,s+1),(y,0)]=(T++[(h,s+1)])++[(y,0)] by simp,O1 (T++[(h,s+1)])]
    rfl
   rw[←Y9,e2]
   exact q _ _ _ _ _ _ _ (GT.Zi4 (by omega) (by omega)) w2
theorem Zc3{Γ G}(g6:Γ[16]?=some Yb):RR ⟨K,Γ,G⟩ b_Lorder R6 Yz:=by
 rintro ds M Q Z ⟨a,raw,rfl,hr,h0,h1,hg,q⟩
 simp only[b_Lorder,R6]
 walk_at "ev"
 refine⟨Z1 (by decide),Z1 (by decide),Z1 (by decide),Z1 (by decide),?_⟩
 simp only[List.length_append,List.length_cons,List.length_nil,List.append_assoc,List.cons_append,List.nil_append,Nat.zero_add,Nat.add_assoc,Nat.reduceAdd]
 refine⟨fun m σ M'=>∃B T F N d4 d5 d6,m=GT.wkM raw.length B T∧σ=[some (.ref a),some (.ref M.length),some (.ref (M.length+1)),some (.ref (M.length+2)),d4,d5,d6]∧M'=M++(.lst (natD B):: .lst (trD T):: .lst (natD F)::N)∧GT.Wk (wy raw) raw.length B T F,
  ⟨_,[0],[(0,0)],[],[],none,none,none,rfl,rfl,rfl,GT.Wk.begin _ h0⟩,?_⟩
 rintro m σ M' ⟨B,T,F,N,d4,d5,d6,rfl,rfl,rfl,w⟩
 walk_at "ev"
 refine⟨Z1 (by decide),?_⟩
 rw[List.append_assoc]
 simp only[List.cons_append]
 have rT:∀N':Z2,Z7 (M++ .lst (natD B):: .lst (trD T):: .lst (natD F)::N') (M.length+1)=some (trD T):=fun N'=>by rw[Yw];rfl
 refine Nl (rT _) (by rw[show M++ .lst (natD B):: .lst (trD T):: .lst (natD F)::(N++[.lst []])=(M++ .lst (natD B):: .lst (trD T):: .lst (natD F)::N)++[.lst []] by simp];exact Z9 _ _ []) ?_
 cases hT:T.isEmpty with
 | true=>
  rw[if_neg (by decide)]
  have eT:T=[]:=List.isEmpty_iff.mp hT
  subst eT
  simp only[Pl]
  walk_at "ev"
  refine⟨natD F,by rw[Yw];rfl,?_⟩
  refine q F.reverse _ _ w.ord (((Kp.new M _)).app _) ?_ ?_
  ·rw[show natD F.reverse=(natD F).reverse by unfold natD;rw[List.map_reverse]]
   exact Za _ _ []
  ·rw[List.length_append];omega
 | false=>
  rw[if_pos rfl]
  have hne:T≠[]:=by rintro rfl;cases hT
  obtain⟨T',⟨h,s⟩,rfl⟩:∃T' p,T=T'++[p]:=⟨T.dropLast,T.getLast hne,(List.dropLast_concat_getLast hne).symm⟩
  refine B3 g6 hr h1 hg w _ fun B2 T2 F2 N2 d4 d5 d6 lt w2=>⟨_,lt,B2,T2,F2,N2,d4,d5,d6,rfl,rfl,rfl,w2⟩
end
section
variable{K:PySem.W.Frag}
theorem Rw{M:Z2}{P:Nat→Prop}{a x:Nat}{O:List Nat}(h:Z7 M a=some (natD O))(hx:x∈O)(q:P (O.idxOf x)):
  ∃xs k z,Z7 M a=some xs∧Yq (.int (x:Nat))=true∧xs.all Yq=true∧xs[k]?=some z∧eqF z (.int (x:Nat))=true∧(∀(j:Nat) u,j<k→xs[j]?=some u→eqF u (.int (x:Nat))=false)∧P k:=by
 have hl:O.idxOf x<O.length:=List.idxOf_lt_length_of_mem hx
 refine⟨natD O,O.idxOf x,.int (x:Nat),h,rfl,G2 O,Zy ?_,by simp[eqF],fun j u hj hu=>?_,q⟩
 ·rw[List.getElem?_eq_getElem hl,List.getElem_idxOf hl]
 ·have hjl:j<O.length:=by omega
  rw[Zy (List.getElem?_eq_getElem hjl)] at hu
  cases hu
  have hne:O[j]≠x:=by
   have:=List.not_of_lt_findIdx (p:=(·==x)) (xs:=O) (i:=j) hj
   simpa using this
  show(((O[j]:Nat):Int)==((x:Nat):Int))=false
  rw[beq_eq_false_iff_ne]
  omega
noncomputable def gra(raw:List Nd)(O:List Nat):List Nd:=O.map fun x=>(raw.getD x .fin).to fun y=>O.idxOf y
theorem Ot(raw:List Nd)(O:List Nat):(gra raw O).length=O.length:=by unfold gra;simp
theorem Y00(raw:List Nd)(O:List Nat):wy (gra raw O)=GT.Z69 (wy raw) O:=by
 funext k
 unfold wy gra GT.Z69
 rw[List.getElem?_map]
 cases e:O[k]? with
 | none=>rfl
 | some x=>
  simp only[Option.map_some]
  rw[Nd.gs_to,List.getD_eq_getElem?_getD]
  cases e2:raw[x]? with
  | none=>rfl
  | some d=>rfl
theorem Zv9{raw:List Nd}{O:List Nat}{n:Nat}(o:GT.Ord (wy raw) n O):GT.Num (wy (gra raw O)) (gra raw O).length:=by
 rw[Y00,Ot];exact o.num
theorem Y41{raw:List Nd}{O:List Nat}(h:∀d∈raw,d.ok=true):∀d∈gra raw O,d.ok=true:=by
 intro d hd
 unfold gra at hd
 obtain⟨x,_,rfl⟩:=List.mem_map.mp hd
 rw[Nd.ok_to,List.getD_eq_getElem?_getD]
 cases e:raw[x]? with
 | none=>rfl
 | some d=>exact h d (List.mem_of_getElem? e)
theorem Zq4{raw:List Nd}{O:List Nat}{i x:Nat}{d:Nd}(h:O[i]?=some x)(hd:raw[x]?=some d):(gra raw O)[i]?=some (d.to fun y=>O.idxOf y):=by
 unfold gra
 rw[List.getElem?_map,h,Option.map_some,List.getD_eq_getElem?_getD,hd]
 rfl
theorem Zg{α:Type}{l:List α}{i:Nat}{x:α}(h:l[i]?=some x):l.take (i+1)=l.take i++[x]:=by
 obtain⟨h1,h2⟩:=List.getElem?_eq_some_iff.mp h
 rw[←h2]
 exact List.take_succ_eq_append_getElem h1
theorem Zi0{Γ G}(g7:Γ[17]?=some Yz):RR ⟨K,Γ,G⟩ b_Lgraph R7 X5:=by
 rintro ds M Q Z ⟨a,raw,rfl,hr,h0,h1,hg,hok,q⟩
 simp only[b_Lgraph,R7]
 walk_at "ev"
 simp only[g7]
 refine⟨a,raw,rfl,hr,h0,h1,hg,fun O M1 ro ord kp hO hro=>?_⟩
 have hOL:=Z0 hO
 have aL:=kp.L hr
 have ol:=ord.le
 walk_at "ev"
 refine⟨Z1 (by decide),_,Z4 hOL,?_⟩
 refine X3 (fun i σ M'=>∃d3 d4,σ=[some (.ref a),some (.ref ro),some (.ref M1.length),d3,d4]∧M'=M1++[.lst (((gra raw O).take i).map Nd.d)]) ⟨none,none,rfl,rfl⟩ ?_ ?_ ?_
 ·rintro i σ M' _ ⟨d3,d4,rfl,rfl⟩
  exact Z4 hOL
 ·rintro i dx σ M' C hx ⟨d3,d4,rfl,rfl⟩ hC
  have hi:i<O.length:=by have:=(List.getElem?_eq_some_iff.mp hx).1;rwa[Z6] at this
  rw[Zy (List.getElem?_eq_getElem hi)] at hx
  cases hx
  have hxi:O[i]?=some O[i]:=List.getElem?_eq_getElem hi
  generalize O[i]=x at hxi
  have hxn:x<raw.length:=ord.lt x (List.mem_of_getElem? hxi)
  obtain⟨d,hd⟩:∃d,raw[x]?=some d:=⟨_,List.getElem?_eq_getElem hxn⟩
  have cl:∀y∈d.gs,y∈O:=fun y hy=>ord.cl x (List.mem_of_getElem? hxi) y (by rw[O9 hd];exact hy)
  have fin:∀d3 d4,C [some (.ref a),some (.ref ro),some (.ref M1.length),d3,d4] (M1++[.lst (((gra raw O).take i).map Nd.d++[(d.to fun y=>O.idxOf y).d])]):=by
   intro d3 d4
   refine hC _ _ ⟨d3,d4,rfl,?_⟩
   rw[Zg (Zq4 hxi hd),List.map_append]
   rfl
  have len:(((gra raw O).take i).map Nd.d).length<sizeLine:=by
   rw[List.length_map,List.length_take,Ot]
   exact Z8 (by omega)
  simp only[Pa]
  walk_at "ev"
  refine ix_l (Z4 aL) (Qk hd) ?_
  have last:∀d3 v bk,v=(d.to fun y=>O.idxOf y).d→tss ⟨K,Γ,G⟩ noX Tt {nx:=C,rt:=Q,bk:=bk,ct:=C} [some (.ref a),some (.ref ro),some (.ref M1.length),d3,some v] (M1++[.lst (((gra raw O).take i).map Nd.d)]):=by
   rintro d3 v bk rfl
   simp only[Tt]
   walk_at "ev"
   refine⟨Zi (Z9 _ _ []),_,Za _ _ [],len,?_⟩
   rw[Xg]
   exact fin _ _
  cases d with
  | sum nm o1 sg o2 t=>
   simp only[Nd.d]
   walk_at "ev"
   refine⟨_,rfl,?_⟩
   walk_at "ev"
   rw[show U.cutD [.str "sum",.str nm,o1.d,.str sg,o2.d,.int t] none (some 5)=[.str "sum",.str nm,o1.d,.str sg,o2.d] from rfl]
   refine⟨by decide,Zi (Z4 hOL),_,rfl,Rw (Z4 hOL) (cl t (by simp[Nd.gs])) ?_⟩
   refine⟨Z1 (by decide),by simp,Z1 (by simp),?_⟩
   simp only[Wb]
   walk_at "ev"
   refine⟨_,rfl,?_⟩
   walk_at "ev"
   rw[if_neg (by decide+kernel)]
   exact last _ _ _ rfl
  | test o1 sg o2 y n=>
   simp only[Nd.d]
   walk_at "ev"
   refine⟨_,rfl,?_⟩
   walk_at "ev"
   rw[if_neg (by decide+kernel)]
   simp only[Wb]
   walk_at "ev"
   refine⟨_,rfl,?_⟩
   walk_at "ev"
   rw[show U.cutD [.str "test",o1.d,.str sg,o2.d,.int y,.int n] none (some 4)=[.str "test",o1.d,.str sg,o2.d] from rfl]
   refine⟨by decide,Zi (Z4 hOL),_,rfl,Rw (Z4 hOL) (cl y (by simp[Nd.gs])) ?_⟩
   refine⟨Zi (Z4 hOL),_,rfl,Rw (Z4 hOL) (cl n (by simp[Nd.gs])) ?_⟩
   refine⟨Z1 (by decide),by simp,Z1 (by simp),?_⟩
   exact last _ _ _ rfl
  | fin=>
   simp only[Nd.d]
   walk_at "ev"
   refine⟨_,rfl,?_⟩
   walk_at "ev"
   rw[if_neg (by decide+kernel)]
   simp only[Wb]
   walk_at "ev"
   refine⟨_,rfl,?_⟩
   walk_at "ev"
   rw[if_neg (by decide+kernel)]
   exact last _ _ _ rfl
  | spin=>
   simp only[Nd.d]
   walk_at "ev"
   refine⟨_,rfl,?_⟩
   walk_at "ev"
   rw[if_neg (by decide+kernel)]
   simp only[Wb]
   walk_at "ev"
   refine⟨_,rfl,?_⟩
   walk_at "ev"
   rw[if_neg (by decide+kernel)]
   exact last _ _ _ rfl
 ·rintro σ M' ⟨d3,d4,rfl,rfl⟩
  simp only[Qw]
  walk_at "ev"
  refine q (gra raw O) _ _ (Zv9 ord) (by rw[Ot];exact ol) (Y41 hok) (kp.app _) ?_ ?_
  ·rw[show(natD O).length=(gra raw O).length by rw[Z6,Ot],List.take_length]
   exact Za _ _ []
  ·obtain⟨L,rfl⟩:=kp;rw[List.length_append];omega
end
section
variable{K:PySem.W.Frag}
def AL(M:Z2):Nat→D→D→Prop
 | 0,x,y=>x=y∧Yq x=true
 | n+1,x,y=>(x=y∧Yq x=true)∨(∃xs ys,x= .tup xs∧y= .tup ys∧xs.length=ys.length∧xs.length≤100000∧∀(i:Nat) a b,xs[i]?=some a→ys[i]?=some b→AL M n a b)∨
   ∃m k xs ys,x= .ref m∧y= .ref k∧Zd M m=some xs∧Zd M k=some ys∧xs.length=ys.length∧xs.length≤100000∧∀(i:Nat) a b,xs[i]?=some a→ys[i]?=some b→AL M n a b
def Yy(n:Nat):DSp:=fun ds M Q _=>∃x y,ds=[x,y]∧AL M n x y∧Q (.bl true) M
theorem AL.flat{M:Z2}{n:Nat}{x:D}(h:Yq x=true):AL M n x x:=by
 cases n with
 | zero=>exact⟨rfl,h⟩
 | succ n=>exact .inl ⟨rfl,h⟩
theorem Pd{Γ G}{M:Z2}{Q:DK}{x:D}(h:Yq x=true)(q:Q (.bl true) M):tss ⟨K,Γ,G⟩ noX b_Lalike {nx:=fun _ M=>Q .non M,rt:=Q} (start0 Xw [x,x]) M:=by
 simp only[b_Lalike,Xw]
 cases x with
 | non=>
  walk_at "ev"
  exact q
 | bl b=>
  walk_at "ev"
  simp only[Xq]
  walk_at "ev"
  simpa using q
 | int i=>
  walk_at "ev"
  simp only[Xq]
  walk_at "ev"
  simp only[Wa]
  walk_at "ev"
  simpa using q
 | str z=>
  walk_at "ev"
  simp only[Xq]
  walk_at "ev"
  simp only[Wa]
  walk_at "ev"
  simp only[Vi]
  walk_at "ev"
  simpa using q
 | _=>exact absurd h Bool.false_ne_true
theorem Z41{Γ G}:∀ds M Q Z,Yy 0 ds M Q Z→tss ⟨K,Γ,G⟩ noX b_Lalike {nx:=fun _ M=>Q .non M,rt:=Q} (start0 Xw ds) M:=by
 rintro ds M Q Z ⟨x,y,rfl,⟨rfl,h⟩,q⟩
 exact Pd h q
theorem N4{Γ G}{n:Nat}(g:Γ[23]?=some (Yy n)){M:Z2}{Q:DK}{x y:D}{xs ys:List D}{d:Option D}(hl:xs.length=ys.length)(hs:xs.length≤100000)(h:∀(i:Nat) a b,xs[i]?=some a→ys[i]?=some b→AL M n a b)
  (lx:∀F:DK,F (.int xs.length) M→bfD K .len [x] M F) (ly:∀F:DK,F (.int ys.length) M→bfD K .len [y] M F) (ix:∀(i:Nat) a (F:D→Prop),xs[i]?=some a→F a→ixD M x (.int i) F) (iy:∀(i:Nat) a (F:D→Prop),ys[i]?=some a→F a→ixD M y (.int i) F) (q:Q (.bl true) M):
  tss ⟨K,Γ,G⟩ noX Tw {nx:=fun _ M=>Q .non M,rt:=Q} [some x,some y,d] M:=by
 simp only[Tw]
 walk_at "ev"
 refine lx _ (ly _ ?_)
 walk_at "ev"
 rw[if_neg (by rw[hl];simp)]
 simp only[Pf]
 walk_at "ev"
 refine ly _ ⟨by omega,by omega,?_⟩
 rw[Int.toNat_natCast]
 refine Rk (fun i σ M'=>∃d,σ=[some x,some y,d]∧M'=M) ⟨d,rfl,rfl⟩ ?_ ?_
 ·rintro i σ M' C hi ⟨d,rfl,rfl⟩ hC
  simp only[Ph,Int.zero_add]
  walk_at "ev"
  refine ix i _ _ (List.getElem?_eq_getElem (by omega)) (iy i _ _ (List.getElem?_eq_getElem hi) ?_)
  simp only[g]
  refine⟨_,_,rfl,h i _ _ (List.getElem?_eq_getElem (by omega)) (List.getElem?_eq_getElem hi),?_⟩
  walk_at "ev"
  exact hC _ _ ⟨_,rfl,rfl⟩
 ·rintro σ M' ⟨d,rfl,rfl⟩
  simp only[Qr]
  walk_at "ev"
  exact q
theorem Nz{Γ G}{n:Nat}(g:Γ[23]?=some (Yy n)):∀ds M Q Z,Yy (n+1) ds M Q Z→tss ⟨K,Γ,G⟩ noX b_Lalike {nx:=fun _ M=>Q .non M,rt:=Q} (start0 Xw ds) M:=by
 rintro ds M Q Z ⟨x,y,rfl,h | ⟨xs,ys,rfl,rfl,hl,hs,h⟩ | ⟨m,k,xs,ys,rfl,rfl,h1,h2,hl,hs,h⟩,q⟩
 ·obtain⟨rfl,h⟩:=h
  exact Pd h q
 ·simp only[b_Lalike,Xw]
  walk_at "ev"
  simp only[Xq]
  walk_at "ev"
  simp only[Wa]
  walk_at "ev"
  simp only[Vi]
  walk_at "ev"
  simp only[Tu]
  walk_at "ev"
  exact N4 g hl hs h (fun F f=>f) (fun F f=>f) (fun i a F e f=>⟨a,Oc e,f⟩) (fun i a F e f=>⟨a,Oc e,f⟩) q
 ·have i1:∀{t:Ty} {B:Bool→Prop},isD K M (.ref m) (.ty (Xd t)) B=B (tyLst t):=fun{t B}=>Zk5 h1
  have i2:∀{t:Ty} {B:Bool→Prop},isD K M (.ref k) (.ty (Xd t)) B=B (tyLst t):=fun{t B}=>Zk5 h2
  simp only[b_Lalike,Xw]
  walk_at "ev"
  simp only[Xq]
  walk_at "ev"
  simp only[i2]
  walk_at "ev"
  simp only[Wa]
  walk_at "ev"
  simp only[i2]
  walk_at "ev"
  simp only[Vi]
  walk_at "ev"
  simp only[i2]
  walk_at "ev"
  simp only[Tu]
  walk_at "ev"
  simp only[i1,i2]
  walk_at "ev"
  exact N4 g hl hs h (fun F f=>Y8 (Z0 h1) f) (fun F f=>Y8 (Z0 h2) f) (fun i a F e f=>ix_l (Z0 h1) e f) (fun i a F e f=>ix_l (Z0 h2) e f) q
end
noncomputable def Opd.p:Opd→PyData
 | .nm x=> .str x
 | .no i=> .int i
noncomputable def Nd.p:Nd→PyData
 | .sum x a sg b t=> .tuple [.str "sum",.str x,a.p,.str sg,b.p,.int t]
 | .test a sg b y n=> .tuple [.str "test",a.p,.str sg,b.p,.int y,.int n]
 | .fin=> .tuple [.str "end"]
 | .spin=> .tuple [.str "spin"]
noncomputable def Xl(b n:Nat):List D:=(List.range n).map fun i=>D.ref (b+i)
theorem Bp(b n:Nat):(Xl b n).length=n:=by unfold Xl;simp
theorem Cv(b n:Nat):Xl b (n+1)=Xl b n++[.ref (b+n)]:=by unfold Xl;rw[List.range_succ,List.map_append];rfl
theorem Jb{b n i:Nat}(h:i<n):(Xl b n)[i]?=some (.ref (b+i)):=by unfold Xl;rw[List.getElem?_map,List.getElem?_range h];rfl
noncomputable def Y5(n:Nat)(F:Nat→List Nat):Z2:=(List.range n).map fun t=>Cell.lst (natD (F t))
theorem Xr(n:Nat)(F:Nat→List Nat):(Y5 n F).length=n:=by unfold Y5;simp
theorem Tn{n t:Nat}(F:Nat→List Nat)(h:t<n):(Y5 n F)[t]?=some (.lst (natD (F t))):=by unfold Y5;rw[List.getElem?_map,List.getElem?_range h];rfl
theorem Nq{n:Nat}{F G:Nat→List Nat}(h:∀t,t<n→F t=G t):Y5 n F=Y5 n G:=by
 unfold Y5
 apply List.map_congr_left
 intro t ht
 rw[h t (List.mem_range.mp ht)]
theorem Cu{n g:Nat}(F:Nat→List Nat)(l:List Nat):(Y5 n F).set g (.lst (natD l))=Y5 n fun t=>if t=g then l else F t:=by
 apply List.ext_getElem?
 intro i
 by_cases hi:i<n
 ·rw[Tn _ hi]
  by_cases e:g=i
  ·subst e
   rw[List.getElem?_set_self (by rw[Xr];exact hi),if_pos rfl]
  ·rw[List.getElem?_set_ne e,Tn _ hi,if_neg (fun z=>e z.symm)]
 ·rw[List.getElem?_eq_none (by rw[List.length_set,Xr];omega),List.getElem?_eq_none (by rw[Xr];omega)]
theorem G9{M:Z2}{c:Cell}{n t:Nat}{F:Nat→List Nat}{N:Z2}(h:t<n):Zd (M++c::(Y5 n F++N)) (M.length+1+t)=some (natD (F t)):=by
 rw[show M.length+1+t=M.length+(t+1) by omega,Xp]
 show Zd (Y5 n F++N) t=_
 unfold Zd
 rw[List.getElem?_append_left (by rw[Xr];exact h),Tn F h]
noncomputable def Yv(gr:List Nd)(i t:Nat):List Nat:=(List.range i).flatMap fun k=>List.replicate ((wy gr k).count t) k
theorem Pp(gr:List Nd)(i t:Nat):Yv gr (i+1) t=Yv gr i t++List.replicate ((wy gr i).count t) i:=by
 unfold Yv;rw[List.range_succ,List.flatMap_append];simp
theorem Y04(gr:List Nd)(k:Nat):(wy gr k).length≤2:=by
 unfold wy
 split
 ·exact Nd.gs_two _
 ·simp
theorem Wx(gr:List Nd)(t:Nat):∀i,(Yv gr i t).length≤2 * i
 | 0=>by simp[Yv]
 | i+1=>by
  rw[Pp,List.length_append,List.length_replicate]
  have h1:=Wx gr t i
  have h2:=Y04 gr i
  have h3:(wy gr i).count t≤(wy gr i).length:=List.count_le_length
  omega
theorem Za5(l:List Nat)(j t i:Nat){g:Nat}(h:l[j]?=some g):List.replicate ((l.take (j+1)).count t) i=List.replicate ((l.take j).count t) i++(if t=g then [i] else []):=by
 rw[Zg h,List.count_append]
 by_cases e:t=g
 ·subst e
  rw[if_pos rfl,List.count_singleton_self,List.replicate_succ']
 ·rw[if_neg e,List.count_singleton,if_neg (by simpa using fun z:g=t=>e z.symm)]
  simp
theorem R0{M:Z2}{c:Cell}{n:Nat}{F G:Nat→List Nat}(h:∀t,t<n→F t=G t):M++c::Y5 n F=M++c::Y5 n G:=by rw[Nq h]
def Zx:DSp:=fun ds M Q _=>∃d:Nd,ds=[d.d]∧Q (.tup (natD d.gs.reverse)) M
def Zb:DSp:=fun ds M Q _=>∃(a:Nat) (gr:List Nd),ds=[.ref a]∧Z7 M a=some (gr.map Nd.d)∧gr.length≤1000∧(∀k,k<gr.length→∀t∈wy gr k,t<gr.length)∧
 Q (.ref M.length) (M++ .lst (Xl (M.length+1) gr.length)::Y5 gr.length (Yv gr gr.length))
section
variable{K:PySem.W.Frag}
theorem Zz6{Γ G}:RR ⟨K,Γ,G⟩ b_ways Ea Zx:=by
 rintro ds M Q Z ⟨d,rfl,q⟩
 simp only[b_ways,Ea]
 cases d with
 | sum x a sg b t=>
  simp only[Nd.d]
  walk_at "ev"
  refine⟨_,rfl,?_⟩
  walk_at "ev"
  exact⟨_,rfl,Z1 (by decide),q⟩
 | test a sg b y n=>
  simp only[Nd.d]
  walk_at "ev"
  refine⟨_,rfl,?_⟩
  walk_at "ev"
  rw[if_neg (by decide+kernel)]
  simp only[Sz]
  walk_at "ev"
  refine⟨_,rfl,?_⟩
  walk_at "ev"
  exact⟨_,rfl,_,rfl,Z1 (by decide),q⟩
 | fin=>
  simp only[Nd.d]
  walk_at "ev"
  refine⟨_,rfl,?_⟩
  walk_at "ev"
  rw[if_neg (by decide+kernel)]
  simp only[Sz]
  walk_at "ev"
  refine⟨_,rfl,?_⟩
  walk_at "ev"
  rw[if_neg (by decide+kernel)]
  simp only[Ox]
  walk_at "ev"
  exact⟨Z1 (by decide),q⟩
 | spin=>
  simp only[Nd.d]
  walk_at "ev"
  refine⟨_,rfl,?_⟩
  walk_at "ev"
  rw[if_neg (by decide+kernel)]
  simp only[Sz]
  walk_at "ev"
  refine⟨_,rfl,?_⟩
  walk_at "ev"
  rw[if_neg (by decide+kernel)]
  simp only[Ox]
  walk_at "ev"
  exact⟨Z1 (by decide),q⟩
theorem Fc{xs:List D}{i:Nat}{d:D}(h:(Nh xs)[i]?=some d):∃x,xs[i]?=some x∧d= .tup [.int (i:Nat),x]:=by
 unfold Nh at h
 rw[List.getElem?_mapIdx,Option.map_eq_some_iff] at h
 obtain⟨x,h1,rfl⟩:=h
 exact⟨x,h1,rfl⟩
theorem E4(xs:List D):(Nh xs).length=xs.length:=by unfold Nh;simp
theorem B9{Γ G}(g0:Γ[0]?=some Zx):RR ⟨K,Γ,G⟩ b_comings Tm Zb:=by
 rintro ds M Q Z ⟨a,gr,rfl,hr,hn,hcl,q⟩
 simp only[b_comings,Tm]
 walk_at "ev"
 refine⟨_,hr,?_⟩
 refine Xa (fun i σ M'=>∃d,σ=[d]∧M'=M++ .lst (Xl (M.length+1) i)::Y5 i (fun _=>[])) ⟨none,rfl,rfl⟩ ?_ ?_ ?_
 ·rintro i σ M' _ ⟨d,rfl,rfl⟩
  exact Z4 hr
 ·rintro i dx σ M' C hx ⟨d,rfl,rfl⟩ hC
  have hi:i<gr.length:=by have:=(List.getElem?_eq_some_iff.mp hx).1;rwa[List.length_map] at this
  walk_at "ev"
  rw[List.append_assoc,List.cons_append]
  refine⟨Z1 (by decide),_,Za _ _ _,by rw[Bp];exact Z8 (by omega),?_⟩
  rw[Xg]
  refine hC _ _ ⟨_,rfl,?_⟩
  rw[Cv]
  have e1:Y5 (i+1) (fun _=>[])=Y5 i (fun _=>[])++[.lst []]:=by unfold Y5;rw[List.range_succ,List.map_append];rfl
  have e2:(M++ .lst (Xl (M.length+1) i)::Y5 i (fun _=>[])).length=M.length+1+i:=by simp[Xr];omega
  rw[e1,e2]
 ·rintro σ M' ⟨d,rfl,rfl⟩
  rw[List.length_map]
  refine⟨_,Z4 hr,?_⟩
  refine X3 (fun i σ M'=>∃d2 d3 d4,σ=[some (.ref a),some (.ref M.length),d2,d3,d4]∧M'=M++ .lst (Xl (M.length+1) gr.length)::Y5 gr.length (Yv gr i)) ⟨none,none,none,rfl,?_⟩ ?_ ?_ ?_
  ·exact R0 fun t _=>by simp[Yv]
  ·rintro i σ M' _ ⟨d2,d3,d4,rfl,rfl⟩
   exact⟨_,Z4 hr,rfl⟩
  ·rintro i dx σ M' C hx ⟨d2,d3,d4,rfl,rfl⟩ hC
   obtain⟨x,hx2,rfl⟩:=Fc hx
   have hi:i<gr.length:=by have:=(List.getElem?_eq_some_iff.mp hx2).1;rwa[List.length_map] at this
   obtain⟨nd,hd⟩:∃nd,gr[i]?=some nd:=⟨_,List.getElem?_eq_getElem hi⟩
   rw[Qk hd] at hx2
   cases hx2
   simp only[Qg]
   walk_at "ev"
   simp only[g0]
   refine⟨nd,rfl,?_⟩
   walk_at "ev"
   refine X3 (fun j σ M'=>∃d4,σ=[some (.ref a),some (.ref M.length),some (.int i),some nd.d,d4]∧M'=M++ .lst (Xl (M.length+1) gr.length)::Y5 gr.length (fun t=>Yv gr i t++List.replicate ((nd.gs.reverse.take j).count t) i)) ⟨_,rfl,?_⟩ (fun _ _ _ _ _=>trivial) ?_ ?_
   ·exact R0 fun t _=>by simp
   ·rintro j dx σ M' C2 hx ⟨d4,rfl,rfl⟩ hC2
    have hj:j<nd.gs.reverse.length:=by have:=(List.getElem?_eq_some_iff.mp hx).1;rwa[Z6] at this
    have hgj:nd.gs.reverse[j]?=some nd.gs.reverse[j]:=List.getElem?_eq_getElem hj
    generalize nd.gs.reverse[j]=g at hgj
    rw[Zy hgj] at hx
    cases hx
    have hgn:g<gr.length:=hcl i hi g (by rw[O9 hd];exact List.mem_reverse.mp (List.mem_of_getElem? hgj))
    simp only[Ru]
    walk_at "ev"
    refine ix_l (Z9 _ _ _) (Jb hgn) ?_
    walk_at "ev"
    have hW:=G9 (M:=M) (c:= .lst (Xl (M.length+1) gr.length)) (F:=fun t=>Yv gr i t++List.replicate ((nd.gs.reverse.take j).count t) i) (N:=[]) hgn
    rw[List.append_nil] at hW
    refine⟨Zi (Z0 hW),_,hW,?_,?_⟩
    ·rw[Z6,List.length_append,List.length_replicate]
     have h1:=Wx gr g i
     have h2:(nd.gs.reverse.take j).count g≤(nd.gs.reverse.take j).length:=List.count_le_length
     have h3:(nd.gs.reverse.take j).length≤nd.gs.reverse.length:=by rw[List.length_take];omega
     have h4:=nd.gs_two
     rw[List.length_reverse] at h3
     exact Z8 (by omega)
    ·rw[show M.length+1+g=M.length+(g+1) by omega,Wn,List.set_cons_succ,←Y9,Cu]
     refine hC2 _ _ ⟨_,rfl,R0 fun t _=>?_⟩
     rw[Za5 _ j t i hgj]
     by_cases e:t=g
     ·subst e;simp
     ·simp[e]
   ·rintro σ M' ⟨d4,rfl,rfl⟩
    refine hC _ _ ⟨_,_,_,rfl,R0 fun t _=>?_⟩
    rw[Z6,List.take_length,Pp,O9 hd,List.count_reverse]
  ·rintro σ M' ⟨d2,d3,d4,rfl,rfl⟩
   simp only[Qj]
   walk_at "ev"
   rw[E4,List.length_map]
   exact q
end
def Xc:DSp:=fun ds M Q _=>∃(a st mo:Nat) (ns:List Int),ds=[.ref a,.int st,.int mo]∧Z7 M a=some (ns.map .int)∧ns.length≤63∧(∀i∈ns,Bits bigN i)∧0<mo∧mo≤100∧st≤100∧
 ∀(gr:List Nd) M' r,GT.Num (wy gr) gr.length→gr.length≤mo→(∀d∈gr,d.ok=true)→Kp M M'→Zd M' r=some (gr.map Nd.d)→M.length≤r→Q (.ref r) M'
def Yd:DSp:=fun ds M Q _=>∃(a one:Nat) (gr:List Nd),ds=[.ref a,.int one]∧Z7 M a=some (gr.map Nd.d)∧gr.length≤1000∧GT.Num (wy gr) gr.length∧
 ∀(L:List Nat) M' r,(∀x,x∈L↔GT.Av (wy gr) one x)→L.length≤gr.length→Kp M M'→Zd M' r=some (natD L)→M.length≤r→Q (.ref r) M'
def Gq(M:Z2)(rs:List Nat)(n:Nat)(P:Nat→Nat→Prop):Prop:=rs.length=n∧∀(k:Nat) x,rs[k]?=some x→∃l:List Nat,Z7 M x=some (natD l)∧l.length≤n∧∀y,y∈l↔P k y
theorem Gq.keep{M M':Z2}{rs:List Nat}{n:Nat}{P:Nat→Nat→Prop}(h:Gq M rs n P)(k:Kp M M'):Gq M' rs n P:=
 ⟨h.1,fun i x e=>by obtain⟨l,h1,h2,h3⟩:=h.2 i x e;exact⟨l,k.L h1,h2,h3⟩⟩
def Wr:DSp:=fun ds M Q _=>∃(a:Nat) (gr:List Nd),ds=[.ref a]∧Z7 M a=some (gr.map Nd.d)∧gr.length≤1000∧GT.Num (wy gr) gr.length∧
 ∀(rs:List Nat) M' r,Gq M' rs gr.length (fun k y=>y<gr.length∧¬GT.Av (wy gr) y k)→Kp M M'→Zd M' r=some (rs.map .ref)→M.length≤r→Q (.ref r) M'
section
variable{K:PySem.W.Frag}
theorem Zf1{Γ G}(g2:Γ[11]?=some Yx)(g3:Γ[12]?=some Y6)(g6:Γ[15]?=some Xf)(g9:Γ[18]?=some X5):RR ⟨K,Γ,G⟩ b_Ldrawn Re Xc:=by
 rintro ds M Q Z ⟨a,st,mo,ns,rfl,hm,hl,hb,hmo,hmo2,hst,q⟩
 simp only[b_Ldrawn,Re]
 walk_at "ev"
 simp only[g2,g3]
 refine⟨a,ns,st,rfl,hm,?_⟩
 refine⟨_,77,rfl,by decide,by decide,?_⟩
 have m1:=Zl0 (Ro ns st) 77
 have m2:=Zj3 (Ro ns st) 77
 generalize mix (Ro ns st) 77=u at m1 m2
 walk_at "ev"
 have hp:(0:Int)<mo:=by omega
 rw[qm hp,qd (show(0:Int)<6 by decide),qm (show(0:Int)<2 by decide),qd (show(0:Int)<3 by decide)]
 refine⟨Xm (by decide) (by decide),by omega,Xm (by decide) (by decide),?_⟩
 have r1:=Int.emod_nonneg (u / 6) (show(mo:Int)≠0 by omega)
 have r2:=Int.emod_lt_of_pos (u / 6) hp
 have key:∀many:Nat,0<many→many≤mo→tss ⟨K,Γ,G⟩ noX S9 {nx:=fun _ M=>Q .non M,rt:=Q} [some (.ref a),some (.int st),some (.int mo),some (.int u),some (.int many),none] M:=by
  intro many h0 h40
  simp only[S9]
  walk_at "ev"
  refine⟨by omega,by omega,?_⟩
  simp only[capD,List.map_cons,List.map_nil,Option.bind_none,Option.bind_some,List.getElem?_cons_zero,List.getElem?_cons_succ,Option.join_some]
  refine Xa (fun i σ M'=>∃d m nds N,σ=[d,some (.ref a),some (.int st),some (.int many),some (.int m)]∧M'=M++ .lst (nds.map Nd.d)::N∧nds.length=i∧(∀x∈nds,∀t∈x.gs,t<many)∧∀x∈nds,x.ok=true) ⟨none,_,[],[],rfl,rfl,rfl,by simp,by simp⟩ (fun _ _ _ _ _=>trivial) ?_ ?_
  ·rintro i dx σ M' C hx ⟨d,m,nds,N,rfl,rfl,hlen,hgs,hok⟩ hC
   have hi:i<many:=by
    have:=(List.getElem?_eq_some_iff.mp hx).1
    rw[Y2] at this
    omega
   rw[V6 (by omega)] at hx
   cases hx
   simp only[Int.zero_add]
   walk_at "ev"
   simp only[g2,g6]
   refine⟨a,ns,st+1+i,?_,Z4 hm,?_⟩
   ·congr 3
   walk_at "ev"
   refine⟨Ro ns (st+1+i),_,i,many,rfl,Z02 hb _,hi,by omega,fun nd M2 g1 g2 k2=>?_⟩
   obtain⟨L,rfl⟩:=k2
   rw[List.append_assoc,List.cons_append]
   refine⟨_,Za _ _ _,by rw[List.length_map];exact Z8 (by omega),?_⟩
   rw[Xg]
   refine hC _ _ ⟨_,_,nds++[nd],N++L,rfl,by rw[List.map_append];rfl,by rw[List.length_append,hlen];rfl,fun x hx=>?_,fun x hx=>?_⟩
   ·rcases List.mem_append.mp hx with h | h
    ·exact hgs x h
    ·rw[List.mem_singleton] at h;subst h;exact g1
   ·rcases List.mem_append.mp hx with h | h
    ·exact hok x h
    ·rw[List.mem_singleton] at h;subst h;exact g2
  ·rintro σ M' ⟨d,m,nds,N,rfl,rfl,hlen,hgs,hok⟩
   rw[Y2,Int.toNat_natCast] at hlen
   try walk_at "ev"
   simp only[g9]
   refine⟨_,nds,rfl,Z9 _ _ _,by omega,by omega,by rw[hlen];exact hgs,hok,fun gr M2 r n1 n2 n3 k2 hw hr=>?_⟩
   refine q gr M2 r n1 (by omega) n3 ((Kp.new M _).trans k2) hw ?_
   rw[List.length_append] at hr
   omega
 split
 ·refine Y8 hm ?_
  walk_at "ev"
  have hmany:∃many:Nat,0<many∧many≤mo∧(if (if (mo:Int)< ((ns.map D.int).length:Int) - st - 1 then(mo:Int) else((ns.map D.int).length:Int) - st - 1) >1 then(if (mo:Int)< ((ns.map D.int).length:Int) - st - 1 then(mo:Int) else((ns.map D.int).length:Int) - st - 1) else 1)=many:=by
   refine⟨(if (if (mo:Int)< ((ns.map D.int).length:Int) - st - 1 then(mo:Int) else((ns.map D.int).length:Int) - st - 1) >1 then(if (mo:Int)< ((ns.map D.int).length:Int) - st - 1 then(mo:Int) else((ns.map D.int).length:Int) - st - 1) else 1).toNat,?_,?_,?_⟩
   ·split<;>split at * <;>omega
   ·split<;>split at * <;>omega
   ·rw[Int.toNat_of_nonneg]
    split<;>split at * <;>omega
  obtain⟨many,h0,h1,e⟩:=hmany
  rw[e]
  exact key many h0 h1
 ·have e:1+u / 6 % (mo:Int)=((1+u / 6 % (mo:Int)).toNat:Nat):=by omega
  rw[e]
  exact key _ (by omega) (by omega)
end
section
variable{K:PySem.W.Frag}
theorem Zu2(M N:Z2)(c:Cell)(j:Nat):Z7 (M++c::N) (M.length+(j+1))=Z7 N j:=by rw[Yw];rfl
def OwnT(b:Nat)(N:Z2)(rs:List Nat)(i n:Nat)(P:Nat→Nat→Prop):Prop:=rs.length=i∧∀(k:Nat) x,rs[k]?=some x→∃j l,x=b+(j+1)∧Z7 N j=some (natD l)∧l.length≤n∧∀y,y∈l↔P k y
theorem OwnT.snoc{b:Nat}{N L:Z2}{rs:List Nat}{i n j:Nat}{P:Nat→Nat→Prop}{l:List Nat}(h:OwnT b N rs i n P)(h1:Z7 (N++L) j=some (natD l))(h2:l.length≤n)(h3:∀y,y∈l↔P i y):OwnT b (N++L) (rs++[b+(j+1)]) (i+1) n P:=by
 refine⟨by rw[List.length_append,h.1];rfl,fun k x e=>?_⟩
 rcases GT.Yg e with e | ⟨e1,rfl⟩
 ·obtain⟨j',l',a1,a2,a3⟩:=h.2 k x e
  exact⟨j',l',a1,Z4 a2,a3⟩
 ·rw[h.1] at e1
  subst e1
  exact⟨j,l,rfl,h1,h2,h3⟩
theorem OwnT.tells{M N:Z2}{c:Cell}{rs:List Nat}{n:Nat}{P:Nat→Nat→Prop}(h:OwnT M.length N rs n n P):Gq (M++c::N) rs n P:=by
 refine⟨h.1,fun k x e=>?_⟩
 obtain⟨j,l,rfl,a2,a3,a4⟩:=h.2 k x e
 exact⟨l,by rw[Zu2];exact a2,a3,a4⟩
theorem Em{Γ G}(g6:Γ[16]?=some Yb):RR ⟨K,Γ,G⟩ b_Lwithout Vm Yd:=by
 rintro ds M Q Z ⟨a,one,gr,rfl,hr,hn,num,q⟩
 simp only[b_Lwithout,Vm]
 walk_at "ev"
 split
 ·rename_i e
  have e:one=0:=by omega
  subst e
  exact⟨Z1 (by decide),q [] _ _ (fun x=>⟨fun h=>(List.not_mem_nil h).elim,fun h=>absurd h GT.Zc9⟩) (Nat.zero_le _) (Kp.new _ _) (Za _ _ []) (Nat.le_refl _)⟩
 rename_i e
 have hone:one≠0:=by omega
 simp only[So]
 walk_at "ev"
 refine⟨Z1 (by decide),?_⟩
 refine⟨fun m σ M'=>∃L t N d4,m=gr.length - t∧σ=[some (.ref a),some (.int one),some (.ref M.length),some (.int (t:Nat)),d4]∧M'=M++ .lst (natD L)::N∧GT.Fd (wy gr) gr.length one L t,
  ⟨_,[0],0,[],none,rfl,rfl,rfl,GT.Fd.begin _ _ hone⟩,?_⟩
 rintro m σ M' ⟨L,t,N,d4,rfl,rfl,rfl,fd⟩
 have sm:=fd.small num
 walk_at "ev"
 refine Y8 (Z9 _ _ _) ?_
 walk_at "ev"
 rw[Z6]
 split
 ·rename_i hlt
  have hlt:t<L.length:=by omega
  have hx:L[t]?=some L[t]:=List.getElem?_eq_getElem hlt
  generalize L[t]=x at hx
  have hxn:x<gr.length:=(fd.av x (List.mem_of_getElem? hx)).lt num
  obtain⟨nd,hd⟩:∃nd,gr[x]?=some nd:=⟨_,List.getElem?_eq_getElem hxn⟩
  simp only[Sd]
  walk_at "ev"
  refine ix_l (Z9 _ _ _) (Zy hx) ?_
  refine ix_l (Z4 hr) (Qk hd) ?_
  simp only[g6]
  refine⟨nd,rfl,?_⟩
  walk_at "ev"
  refine⟨_,Z9 _ _ [],?_⟩
  rw[List.append_assoc,List.cons_append]
  have el:(M++ .lst (natD L)::N).length=M.length+(N.length+1):=by simp
  rw[el]
  have rG:∀c,Z7 (M++c::(N++[.lst (natD nd.gs)])) (M.length+(N.length+1))=some (natD nd.gs):=fun c=>by rw[Zu2];exact Z9 N _ []
  refine X3 (fun j σ M'=>∃L' d4,σ=[some (.ref a),some (.int one),some (.ref M.length),some (.int (t:Nat)),d4]∧M'=M++ .lst (natD L')::(N++[.lst (natD nd.gs)])∧GT.Fd (wy gr) gr.length one L' t∧L'[t]?=some x∧∀y∈nd.gs.take j,y=one∨y∈L') ⟨L,_,rfl,rfl,fd,hx,by simp⟩ ?_ ?_ ?_
  ·rintro j σ M' _ ⟨L',d4,rfl,rfl,_⟩
   exact rG _
  ·rintro j dx σ M' C hxj ⟨L',d4,rfl,rfl,fd',hx',hy'⟩ hC
   have hj:j<nd.gs.length:=by have:=(List.getElem?_eq_some_iff.mp hxj).1;rwa[Z6] at this
   have hgj:nd.gs[j]?=some nd.gs[j]:=List.getElem?_eq_getElem hj
   generalize nd.gs[j]=y at hgj
   rw[Zy hgj] at hxj
   cases hxj
   have tk:=Zg hgj
   have hyx:y∈wy gr x:=by rw[O9 hd];exact List.mem_of_getElem? hgj
   simp only[Sq]
   walk_at "ev"
   have stay:y=one∨y∈L'→∀z∈nd.gs.take (j+1),z=one∨z∈L':=by
    intro h z hz
    rw[tk] at hz
    rcases List.mem_append.mp hz with h2 | h2
    ·exact hy' z h2
    ·rw[List.mem_singleton] at h2;subst h2;exact h
   by_cases ho:y=one
   ·subst ho
    rw[if_neg (by simp)]
    try rw[if_neg (by simp)]
    exact hC _ _ ⟨L',_,rfl,rfl,fd',hx',stay (.inl rfl)⟩
   ·have ho':¬(y:Int)=(one:Int):=by omega
    rw[if_pos ho']
    refine Vp (Z9 _ _ _) ?_
    by_cases hm:y∈L'
    ·rw[decide_eq_true hm,if_neg (by decide)]
     exact hC _ _ ⟨L',_,rfl,rfl,fd',hx',stay (.inr hm)⟩
    ·rw[decide_eq_false hm,if_pos rfl]
     have fd2:=fd'.more (List.mem_of_getElem? hx') hyx ho hm
     have sm2:=fd'.small num
     refine⟨Zi (Z9 _ _ _),_,Za _ _ _,by rw[Z6];exact Z8 (by omega),?_⟩
     rw[Xg,←Y9]
     refine hC _ _ ⟨L'++[y],_,rfl,rfl,fd2,GT.Yn hx',fun z hz=>?_⟩
     rw[tk] at hz
     rcases List.mem_append.mp hz with h2 | h2
     ·exact(hy' z h2).imp id (List.mem_append_left _)
     ·rw[List.mem_singleton] at h2;subst h2;exact .inr (by simp)
  ·rintro σ M' ⟨L',d4,rfl,rfl,fd',hx',hy'⟩
   rw[Z6,List.take_length] at hy'
   simp only[Sg]
   walk_at "ev"
   have fd3:=fd'.next hx' (fun y hy=>hy' y (by rw[O9 hd] at hy;exact hy))
   have sm3:=fd3.small num
   have le3:=fd3.le
   exact⟨_,by omega,L',t+1,_,_,rfl,rfl,rfl,fd3⟩
 ·rename_i hge
  simp only[Si]
  walk_at "ev"
  exact q L _ _ (fun x=>fd.all (by omega) x) sm (Kp.new _ _) (Za _ _ _) (Nat.le_refl _)
theorem Zw3{Γ G}(g10:Γ[20]?=some Yd):RR ⟨K,Γ,G⟩ b_Lover Oe Wr:=by
 rintro ds M Q Z ⟨a,gr,rfl,hr,hn,num,q⟩
 simp only[b_Lover,Oe]
 walk_at "ev"
 refine Y8 hr ⟨by omega,by rw[List.length_map];omega,?_⟩
 rw[Int.toNat_natCast,List.length_map]
 simp only[capD,List.map_cons,List.map_nil,Option.bind_none,Option.bind_some,List.getElem?_cons_zero,List.getElem?_cons_succ,Option.join_some]
 refine Xa (fun i σ M'=>∃d rs N,σ=[d,some (.ref a)]∧M'=M++ .lst (rs.map .ref)::N∧OwnT M.length N rs i gr.length (fun k y=>GT.Av (wy gr) k y)) ⟨none,[],[],rfl,rfl,rfl,fun k x h=>by simp at h⟩ (fun _ _ _ _ _=>trivial) ?_ ?_
 ·rintro i dx σ M' C hx ⟨d,rs,N,rfl,rfl,ot⟩ hC
  have hi:i<gr.length:=by
   have:=(List.getElem?_eq_some_iff.mp hx).1
   rwa[Y2] at this
  rw[V6 hi] at hx
  cases hx
  simp only[Int.zero_add]
  walk_at "ev"
  simp only[g10]
  refine⟨a,i,gr,rfl,Z4 hr,hn,num,fun L M2 r hL hlen k2 hw hge=>?_⟩
  obtain⟨X,rfl⟩:=k2
  rw[List.append_assoc,List.cons_append] at hw ⊢
  refine⟨_,Za _ _ _,by rw[List.length_map,ot.1];exact Z8 (by omega),?_⟩
  rw[Xg]
  have el:(M++ .lst (rs.map .ref)::N).length=M.length+(N.length+1):=by simp
  rw[el] at hge
  obtain⟨j,rfl⟩:∃j,r=M.length+(j+1):=⟨r - M.length - 1,by omega⟩
  have hw':=Z0 hw
  rw[Zu2] at hw'
  refine hC _ _ ⟨_,rs++[M.length+(j+1)],N++X,rfl,by rw[List.map_append];rfl,ot.snoc hw' hlen hL⟩
 ·rintro σ M' ⟨d,rs,N,rfl,rfl,ot⟩
  rw[Y2] at ot
  have tl:=ot.tells (c:= .lst (rs.map .ref))
  have hr1:Z7 (M++ .lst (rs.map .ref)::N) a=some (gr.map Nd.d):=Z4 hr
  have hf:Z7 (M++ .lst (rs.map .ref)::N) M.length=some (rs.map .ref):=Z9 _ _ _
  have k1:Kp M (M++ .lst (rs.map .ref)::N):=Kp.new _ _
  generalize M++ .lst (rs.map .ref)::N=M1 at tl hr1 hf k1
  try walk_at "ev"
  refine⟨Z1 (by decide),Y8 (Z4 hr1) ⟨by omega,by rw[List.length_map];omega,?_⟩⟩
  rw[Int.toNat_natCast,List.length_map]
  refine Rk (fun i σ M'=>∃d3 rs2 N2,σ=[some (.ref a),some (.ref M.length),some (.ref M1.length),d3]∧M'=M1++ .lst (rs2.map .ref)::N2∧OwnT M1.length N2 rs2 i gr.length (fun k y=>y<gr.length∧¬GT.Av (wy gr) y k)) ⟨none,[],[],rfl,rfl,rfl,fun k x h=>by simp at h⟩ ?_ ?_
  ·rintro k σ M' C hk ⟨d3,rs2,N2,rfl,rfl,ot2⟩ hC
   simp only[J3,Int.zero_add]
   walk_at "ev"
   refine⟨Zi (Z9 _ _ _),Y8 (Z4 hr1) ⟨by omega,by rw[List.length_map];omega,?_⟩⟩
   rw[Int.toNat_natCast,List.length_map]
   simp only[capD,List.map_cons,List.map_nil,Option.bind_none,Option.bind_some,List.getElem?_cons_zero,List.getElem?_cons_succ,Option.join_some]
   rw[List.append_assoc,List.cons_append]
   have el:(M1++ .lst (rs2.map .ref)::N2).length=M1.length+(N2.length+1):=by simp
   rw[el]
   refine Xa (fun i σ M'=>∃d l,σ=[d,some (.int k),some (.ref M.length)]∧M'=M1++ .lst (rs2.map .ref)::(N2++[.lst (natD l)])∧l.length≤i∧∀y,y∈l↔y<i∧¬GT.Av (wy gr) y k) ⟨none,[],rfl,rfl,Nat.le_refl _,fun y=>⟨fun h=>(List.not_mem_nil h).elim,fun h=>absurd h.1 (Nat.not_lt_zero y)⟩⟩ (fun _ _ _ _ _=>trivial) ?_ ?_
   ·rintro i dx σ M' C2 hx ⟨d,l,rfl,rfl,hl,hm⟩ hC2
    have hi:i<gr.length:=by
     have:=(List.getElem?_eq_some_iff.mp hx).1
     rwa[Y2] at this
    rw[V6 hi] at hx
    cases hx
    obtain⟨fr,hfr⟩:∃fr,rs[i]?=some fr:=⟨_,List.getElem?_eq_getElem (by rw[tl.1];exact hi)⟩
    obtain⟨L,hL,hLl,hLm⟩:=tl.2 i fr hfr
    simp only[Int.zero_add]
    walk_at "ev"
    refine ix_l (Z4 hf) (by rw[List.getElem?_map,hfr];rfl) ?_
    refine Vp (Z4 hL) ?_
    have nxt:∀l':List Nat,(∀y,y∈l'↔y∈l∨(y=i∧¬GT.Av (wy gr) i k))→∀y,y∈l'↔y<i+1∧¬GT.Av (wy gr) y k:=by
     intro l' h y
     rw[h y,hm y]
     constructor
     ·rintro(⟨a,b⟩ | ⟨rfl,b⟩)
      ·exact⟨by omega,b⟩
      ·exact⟨by omega,b⟩
     ·rintro⟨a,b⟩
      by_cases e:y=i
      ·subst e;exact .inr ⟨rfl,b⟩
      ·exact .inl ⟨by omega,b⟩
    by_cases hk2:k∈L
    ·rw[decide_eq_true hk2,if_neg (by decide)]
     refine hC2 _ _ ⟨_,l,rfl,rfl,by omega,nxt l fun y=>⟨.inl,fun h=>h.elim id fun z=>absurd ((hLm k).mp hk2) z.2⟩⟩
    ·rw[decide_eq_false hk2,if_pos rfl]
     have hav:¬GT.Av (wy gr) i k:=fun z=>hk2 ((hLm k).mpr z)
     have rd:∀c,Zd (M1++ .lst (rs2.map .ref)::(N2++[.lst c])) (M1.length+(N2.length+1))=some c:=fun c=>by
      rw[Xp];exact Za N2 _ []
     refine⟨_,rd _,by rw[Z6];exact Z8 (by omega),?_⟩
     rw[Wn,List.set_cons_succ,Xg,←Y9]
     refine hC2 _ _ ⟨_,l++[i],rfl,rfl,by rw[List.length_append,List.length_singleton];omega,nxt _ fun y=>?_⟩
     rw[List.mem_append,List.mem_singleton]
     exact⟨fun h=>h.imp id fun z=>⟨z,hav⟩,fun h=>h.imp id fun z=>z.1⟩
   ·rintro σ M' ⟨d,l,rfl,rfl,hl,hm⟩
    rw[Y2] at hl hm
    try walk_at "ev"
    refine⟨_,Za _ _ _,by rw[List.length_map,ot2.1];exact Z8 (by omega),?_⟩
    rw[Xg]
    refine hC _ _ ⟨_,rs2++[M1.length+(N2.length+1)],N2++[.lst (natD l)],rfl,by rw[List.map_append];rfl,ot2.snoc (Z9 N2 _ []) hl hm⟩
  ·rintro σ M' ⟨d3,rs2,N2,rfl,rfl,ot2⟩
   simp only[Jl]
   walk_at "ev"
   refine q rs2 _ _ ot2.tells (k1.app _) (Za _ _ _) ?_
   obtain⟨X,rfl⟩:=k1
   rw[List.length_append]
   omega
end
noncomputable def optD:Option Nat→D
 | none=> .non
 | some m=> .int (m:Nat)
noncomputable def tf(tl:List (Option Nat))(x:Nat):Option Nat:=(tl[x]?).join
theorem Zh0{tl:List (Option Nat)}{x:Nat}(h:x<tl.length):(tl.map optD)[x]?=some (optD (tf tl x)):=by
 unfold tf
 rw[List.getElem?_map,List.getElem?_eq_getElem h]
 rfl
theorem Zx1{tl:List (Option Nat)}{k m:Nat}(h:k<tl.length):tf (tl.set k (some m))=GT.set1 (tf tl) k m:=by
 funext x
 unfold tf
 by_cases e:x=k
 ·subst e;rw[List.getElem?_set_self h,GT.Ye];rfl
 ·rw[List.getElem?_set_ne (Ne.symm e),GT.Y0 e]
noncomputable def told(t:Nat→Option Nat)(p:Nat):Bool:=p==0 || (t p).isSome
theorem Tj{t:Nat→Option Nat}{p:Nat}:told t p=true↔p=0∨(t p).isSome=true:=by unfold told;rw[Bool.or_eq_true,beq_iff_eq]
noncomputable def Sc(t:Nat→Option Nat)(l:List Nat):List Nat:=l.filter (told t)
theorem Gw{t:Nat→Option Nat}{l:List Nat}{i p:Nat}(h:l[i]?=some p)(hp:told t p=true):Sc t (l.take (i+1))=Sc t (l.take i)++[p]:=by
 unfold Sc;rw[Zg h,List.filter_append,List.filter_cons_of_pos hp];rfl
theorem Zn5{t:Nat→Option Nat}{l:List Nat}{i p:Nat}(h:l[i]?=some p)(hp:¬told t p=true):Sc t (l.take (i+1))=Sc t (l.take i):=by
 unfold Sc;rw[Zg h,List.filter_append,List.filter_cons_of_neg hp];simp
noncomputable def mu(n:Nat)(tl:List (Option Nat)):Nat:=(tl.map fun o=>o.getD (n+1)).sum
theorem Z64:∀(l:List Nat) (k v:Nat) (h:k<l.length),(l.set k v).sum+l[k]=l.sum+v
 | x::r,0,v,_=>by simp;omega
 | x::r,k+1,v,h=>by
  have:=Z64 r k v (by simpa using h)
  simp only[List.set_cons_succ,List.sum_cons,List.getElem_cons_succ]
  omega
theorem Zz1{n:Nat}{tl:List (Option Nat)}{k m:Nat}(h:k<tl.length)(hm:m≤n)(lt:∀u,tf tl k=some u→m<u):mu n (tl.set k (some m))<mu n tl:=by
 unfold mu
 rw[List.map_set]
 have hl:k< (tl.map fun o=>o.getD (n+1)).length:=by rw[List.length_map];exact h
 have:=Z64 (tl.map fun o=>o.getD (n+1)) k ((some m).getD (n+1)) hl
 rw[List.getElem_map] at this
 have e:tf tl k=tl[k]:=by unfold tf;rw[List.getElem?_eq_getElem h];rfl
 rw[e] at lt
 cases h2:tl[k] with
 | none=>rw[h2] at this;simp only[Option.getD_none,Option.getD_some] at this ⊢;omega
 | some u=>
  have h3:=lt u h2
  rw[h2] at this
  simp only[Option.getD_some] at this ⊢
  omega
noncomputable def Zf9(ms:List Nat):List D:= .non::natD ms
def G6(g:Nat→List Nat)(n:Nat)(ms:List Nat):Prop:=ms.length+1=n∧∀(k m:Nat),ms[k]?=some m→GT.Must g (k+1) m
def Y3:DSp:=fun ds M Q _=>∃(a one other n:Nat) (g:Nat→List Nat) (tl:List (Option Nat)),ds=[.ref a,.int one,.int other]∧Z7 M a=some (tl.map optD)∧tl.length=n∧GT.Tr g n (tf tl)∧told (tf tl) one=true∧told (tf tl) other=true∧
 ∀r,(∀c,GT.Ch (tf tl) r c↔(GT.Ch (tf tl) one c∧GT.Ch (tf tl) other c))→told (tf tl) r=true→Q (.int (r:Nat)) M
def Zc:DSp:=fun ds M Q _=>∃(a b n:Nat) (g:Nat→List Nat) (tl:List (Option Nat)) (l:List Nat),ds=[.ref a,.ref b]∧Z7 M a=some (tl.map optD)∧Z7 M b=some (natD l)∧tl.length=n∧0<n∧(∀p∈l,p<n)∧GT.Tr g n (tf tl)∧
 ∀o,((o=none∧Sc (tf tl) l=[])∨∃r,o=some r∧GT.Lca (tf tl) (Sc (tf tl) l) r)→Q (optD o) M
def Zl:DSp:=fun ds M Q _=>∃(a:Nat) (gr:List Nd),ds=[.ref a]∧Z7 M a=some (gr.map Nd.d)∧gr.length≤1000∧GT.Num (wy gr) gr.length∧
 ∀ms M' r,G6 (wy gr) gr.length ms→Kp M M'→Zd M' r=some (Zf9 ms)→M.length≤r→Q (.ref r) M'
section
variable{K:PySem.W.Frag}
theorem Zz7{Γ G}:RR ⟨K,Γ,G⟩ b_last_above W9 Y3:=by
 rintro ds M Q Z ⟨a,one,other,n,g,tl,rfl,hr,hl,T,h1,h2,q⟩
 have val:∀y,told (tf tl) y=true→y≠0→∃m,tf tl y=some m∧m<y∧told (tf tl) m=true∧y<tl.length:=by
  intro y hy h0
  obtain⟨m,e⟩:=Option.isSome_iff_exists.mp ((Tj.mp hy).resolve_left h0)
  exact⟨m,e,T.lt y m e,Tj.mpr (T.cl y m e),by rw[hl];exact T.dn y (by rw[e];rfl)⟩
 simp only[b_last_above,W9]
 walk_at "ev"
 refine⟨fun m σ M'=>∃x y:Nat,m=x+y∧σ=[some (.ref a),some (.int (x:Nat)),some (.int (y:Nat))]∧M'=M∧told (tf tl) x=true∧told (tf tl) y=true∧∀c,(GT.Ch (tf tl) x c∧GT.Ch (tf tl) y c)↔(GT.Ch (tf tl) one c∧GT.Ch (tf tl) other c),
  ⟨_,one,other,rfl,rfl,rfl,h1,h2,fun _=>Iff.rfl⟩,?_⟩
 rintro m σ M' ⟨x,y,rfl,rfl,rfl,hx,hy,hi⟩
 walk_at "ev"
 split
 ·rename_i hne
  simp only[Vs]
  walk_at "ev"
  split
  ·rename_i hlt
   have hlt:x<y:=by omega
   obtain⟨u,e,lt,tu,yl⟩:=val y hy (by omega)
   refine ix_l hr (Zh0 yl) ?_
   rw[e]
   refine⟨x+u,by omega,x,u,rfl,rfl,?_⟩
   refine⟨hx,tu,fun c=>(GT.Nj T.lt hlt e c).symm.trans (hi c)⟩
  ·rename_i hge
   have hlt:y<x:=by omega
   obtain⟨u,e,lt,tu,xl⟩:=val x hx (by omega)
   refine ix_l hr (Zh0 xl) ?_
   rw[e]
   refine⟨u+y,by omega,u,y,rfl,rfl,?_⟩
   refine⟨tu,hy,fun c=>?_⟩
   rw[←hi c,And.comm,←GT.Nj T.lt hlt e c,And.comm]
 ·rename_i hne
  have e:x=y:=by omega
  subst e
  simp only[Vr]
  walk_at "ev"
  exact q x (fun c=>by rw[←hi c,and_self]) hx
theorem Z37{Γ G}(g2:Γ[2]?=some Y3):RR ⟨K,Γ,G⟩ b_last_above_all X2 Zc:=by
 rintro ds M Q Z ⟨a,b,n,g,tl,l,rfl,hr,hb,hl,hn,hp,T,q⟩
 simp only[b_last_above_all,X2]
 walk_at "ev"
 refine⟨_,hb,?_⟩
 refine X3 (fun i σ M'=>∃o d3,σ=[some (.ref a),some (.ref b),some (optD o),d3]∧M'=M∧((o=none∧Sc (tf tl) (l.take i)=[])∨∃r,o=some r∧GT.Lca (tf tl) (Sc (tf tl) (l.take i)) r∧told (tf tl) r=true)) ⟨none,none,rfl,rfl,.inl ⟨rfl,rfl⟩⟩ ?_ ?_ ?_
 ·rintro i σ M' _ ⟨o,d3,rfl,rfl,_⟩
  exact hb
 ·rintro i dx σ M' C hx ⟨o,d3,rfl,rfl,ho⟩ hC
  have hi:i<l.length:=by have:=(List.getElem?_eq_some_iff.mp hx).1;rwa[Z6] at this
  have hgi:l[i]?=some l[i]:=List.getElem?_eq_getElem hi
  generalize l[i]=p at hgi
  rw[Zy hgi] at hx
  cases hx
  have hpn:p<tl.length:=by rw[hl];exact hp p (List.mem_of_getElem? hgi)
  simp only[Xx]
  walk_at "ev"
  have yes:told (tf tl) p=true→(cmD M' .is (optD o) .non fun r=>if r=true then C [some (.ref a),some (.ref b),some (.int (p:Nat)),some (.int (p:Nat))] M' else
    Y3 [.ref a,optD o,.int (p:Nat)] M' (fun d M1=>C [some (.ref a),some (.ref b),some d,some (.int (p:Nat))] M1) noX):=by
   intro hpt
   rcases ho with⟨rfl,hc⟩ | ⟨r,rfl,hc,hr2⟩
   ·simp only[optD,cm_is_n,if_true]
    refine hC _ _ ⟨some p,_,rfl,rfl,.inr ⟨p,rfl,?_,hpt⟩⟩
    rw[Gw hgi hpt,hc]
    exact GT.Lca.one _ p
   ·simp only[optD,cm_is_i,Bool.false_eq_true,if_false]
    refine⟨a,r,p,n,g,tl,rfl,hr,hl,T,hr2,hpt,fun u hu hut=>?_⟩
    refine hC _ _ ⟨some u,_,rfl,rfl,.inr ⟨u,rfl,?_,hut⟩⟩
    rw[Gw hgi hpt]
    exact hc.more hu
  have no:¬told (tf tl) p=true→C [some (.ref a),some (.ref b),some (optD o),some (.int (p:Nat))] M':=by
   intro hpt
   refine hC _ _ ⟨o,_,rfl,rfl,?_⟩
   rw[Zn5 hgi hpt]
   exact ho
  simp only[g2]
  by_cases h0:p=0
  ·subst h0
   rw[if_neg (by simp),if_pos (by simp)]
   exact yes rfl
  ·have h0':¬(p:Int)=0:=by omega
   rw[if_pos h0']
   refine ix_l hr (Zh0 hpn) ?_
   cases e:tf tl p with
   | none=>
    simp only[optD,cm_isnot_n,Bool.false_eq_true,if_false]
    refine no fun z=>?_
    rcases Tj.mp z with z | z
    ·exact h0 z
    ·rw[e] at z;cases z
   | some u=>
    simp only[optD,cm_isnot_i,if_true]
    exact yes (Tj.mpr (.inr (by rw[e];rfl)))
 ·rintro σ M' ⟨o,d3,rfl,rfl,ho⟩
  rw[Z6,List.take_length] at ho
  simp only[W5]
  walk_at "ev"
  exact q o (ho.imp id fun zz139=>by obtain⟨r,h1,h2,_⟩:=zz139;exact⟨r,h1,h2⟩)
theorem Vj{gr:List Nd}{n k p:Nat}:p∈Yv gr n k↔p<n∧k∈wy gr p:=by
 unfold Yv
 rw[List.mem_flatMap]
 constructor
 ·rintro⟨q,hq,hp⟩
  obtain⟨h1,rfl⟩:=List.mem_replicate.mp hp
  exact⟨List.mem_range.mp hq,List.count_pos_iff.mp (by omega)⟩
 ·rintro⟨h1,h2⟩
  refine⟨p,List.mem_range.mpr h1,List.mem_replicate.mpr ⟨?_,rfl⟩⟩
  have:=List.count_pos_iff.mpr h2
  omega
theorem Z79{gr:List Nd}{n k:Nat}{t:Nat→Option Nat}:GT.From (wy gr) n t k (Sc t (Yv gr n k)):=by
 intro p
 unfold Sc
 rw[List.mem_filter,Vj,Tj,and_assoc]
def Fin(g:Nat→List Nat)(n:Nat)(tl:List (Option Nat)):Prop:=GT.Tr g n (tf tl)∧(∀x,0<x→x<n→(tf tl x).isSome=true)∧∀x m,tf tl x=some m→∃l,GT.From g n (tf tl) x l∧GT.Lca (tf tl) l m
theorem Bc{g:Nat→List Nat}{n:Nat}{tl:List (Option Nat)}(N:GT.Num g n)(hl:tl.length=n)(h:Fin g n tl):∃ms,G6 g n ms∧tl.map optD=Zf9 ms:=by
 obtain⟨T,all,fix⟩:=h
 have must:=T.done N all fix
 cases tl with
 | nil=>have:=N.pos;simp at hl;omega
 | cons o r=>
  have ho:o=none:=by have:=T.z;exact this
  subst ho
  have hr:∀i (h:i<r.length),∃m,r[i]=some m:=by
   intro i h
   have:=all (i+1) (by omega) (by rw[←hl];simpa using h)
   obtain⟨m,e⟩:=Option.isSome_iff_exists.mp this
   refine⟨m,?_⟩
   have e2:tf (none::r) (i+1)=r[i]:=by unfold tf;rw[List.getElem?_cons_succ,List.getElem?_eq_getElem h];rfl
   rw[←e2];exact e
  refine⟨r.map fun o=>o.getD 0,⟨by rw[List.length_map];simpa using hl,fun k m hk=>?_⟩,?_⟩
  ·rw[List.getElem?_map,Option.map_eq_some_iff] at hk
   obtain⟨o,h1,rfl⟩:=hk
   obtain⟨h2,h3⟩:=List.getElem?_eq_some_iff.mp h1
   obtain⟨m,e⟩:=hr k h2
   rw[h3] at e
   subst e
   refine must (k+1) m ?_
   unfold tf
   rw[List.getElem?_cons_succ,h1]
   rfl
  ·show D.non::r.map optD= .non::natD (r.map fun o=>o.getD 0)
   congr 1
   unfold natD
   rw[List.map_map]
   apply List.ext_getElem (by simp)
   intro i h1 h2
   rw[List.getElem_map,List.getElem_map]
   obtain⟨m,e⟩:=hr i (by simpa using h1)
   rw[e]
   rfl
theorem Zo8{Γ G}(g1:Γ[1]?=some Zb)(g3:Γ[3]?=some Zc):RR ⟨K,Γ,G⟩ b_musts Oj Zl:=by
 rintro ds M Q Z ⟨a,gr,rfl,hr,hn,num,q⟩
 have hpos:=num.pos
 simp only[b_musts,Oj]
 walk_at "ev"
 simp only[g1]
 refine⟨a,gr,rfl,hr,hn,num.cl,?_⟩
 have kp:Kp M (M++ .lst (Xl (M.length+1) gr.length)::Y5 gr.length (Yv gr gr.length)):=Kp.new _ _
 have hf:Z7 (M++ .lst (Xl (M.length+1) gr.length)::Y5 gr.length (Yv gr gr.length)) M.length=some (Xl (M.length+1) gr.length):=Z9 _ _ _
 have hrow:∀k,k<gr.length→Z7 (M++ .lst (Xl (M.length+1) gr.length)::Y5 gr.length (Yv gr gr.length)) (M.length+1+k)=some (natD (Yv gr gr.length k)):=by
  intro k hk
  have:=G9 (M:=M) (c:= .lst (Xl (M.length+1) gr.length)) (F:=Yv gr gr.length) (N:=[]) hk
  rw[List.append_nil] at this
  exact Z0 this
 generalize M++ .lst (Xl (M.length+1) gr.length)::Y5 gr.length (Yv gr gr.length)=M1 at kp hf hrow
 have hr1:=kp.L hr
 walk_at "ev"
 refine⟨Z1 (by decide),Y8 (Z4 hr1) ?_⟩
 rw[List.length_map,op_mul_l]
 refine⟨_,Za _ _ [],by omega,by omega,Z1 (by simp;omega),?_⟩
 rw[List.append_assoc,List.length_append,Int.toNat_natCast]
 simp only[List.cons_append,List.nil_append,List.length_cons,List.length_nil]
 have e0:(List.replicate gr.length [D.non]).flatten=(List.replicate gr.length (none:Option Nat)).map optD:=by
  rw[List.map_replicate]
  induction gr.length with
  | zero=>rfl
  | succ n ih=>rw[List.replicate_succ,List.flatten_cons,ih,List.replicate_succ];rfl
 rw[e0]
 have rT:∀tl:List D,Z7 (M1++[.lst [.non],.lst tl]) (M1.length+(0+1))=some tl:=fun tl=>by rw[Yw];rfl
 have wT:∀tl:List D,Zd (M1++[.lst [.non],.lst tl]) (M1.length+(0+1))=some tl:=fun tl=>by rw[Xp];rfl
 refine⟨fun m σ M'=>∃(tl:List (Option Nat)) (ch:Bool) (d4 d5:Option D) (fs:Prop),m=2 * mu gr.length tl+(if ch=true then 1 else 0)∧σ=[some (.ref a),some (.ref M.length),some (.ref (M1.length+(0+1))),some (.bl ch),d4,d5]∧M'=M1++[.lst [.non],.lst (tl.map optD)]∧tl.length=gr.length∧
   (ch=true→GT.Turn (wy gr) gr.length fs (tf tl) 1)∧(ch=false→Fin (wy gr) gr.length tl),
  ⟨_,List.replicate gr.length none,true,none,none,True,rfl,rfl,rfl,by simp,fun _=>?_,fun h=>by cases h⟩,?_⟩
 ·have:tf (List.replicate gr.length none)=fun _=>none:=by
   funext x
   unfold tf
   rw[List.getElem?_replicate]
   split<;>rfl
  rw[this]
  exact GT.Turn.begin num
 rintro m σ M' ⟨tl,ch,d4,d5,fs,rfl,rfl,rfl,htl,hturn,hfin⟩
 walk_at "ev"
 cases ch with
 | false=>
  rw[if_neg (by decide)]
  obtain⟨ms,h1,h2⟩:=Bc num htl (hfin rfl)
  simp only[Ny]
  walk_at "ev"
  rw[h2]
  refine q ms _ _ h1 (kp.app _) (wT _) ?_
  obtain⟨X,rfl⟩:=kp
  rw[List.length_append]
  omega
 | true=>
  have U0:=hturn rfl
  have z0:∀x m,x<0+1→tf tl x=some m→∃l,GT.From (wy gr) gr.length (tf tl) x l∧GT.Lca (tf tl) l m:=by
   intro x m hx hm
   have e:x=0:=by omega
   subst e
   rw[U0.tr.z] at hm
   cases hm
  rw[if_pos rfl]
  simp only[J7]
  walk_at "ev"
  refine Y8 (Z4 hr1) ⟨⟨by decide,by decide,by omega,by rw[List.length_map];omega⟩,?_⟩
  rw[List.length_map]
  refine Rk (fun i σ M'=>∃(tl':List (Option Nat)) (ch:Bool) (d4 d5:Option D),σ=[some (.ref a),some (.ref M.length),some (.ref (M1.length+(0+1))),some (.bl ch),d4,d5]∧M'=M1++[.lst [.non],.lst (tl'.map optD)]∧tl'.length=gr.length∧
    GT.Turn (wy gr) gr.length fs (tf tl') (i+1)∧mu gr.length tl'≤mu gr.length tl∧(ch=true→mu gr.length tl'<mu gr.length tl)∧(ch=false→∀x m,x<i+1→tf tl' x=some m→∃l,GT.From (wy gr) gr.length (tf tl') x l∧GT.Lca (tf tl') l m))
   ⟨tl,false,_,_,rfl,rfl,htl,U0,Nat.le_refl _,fun h=>(by cases h),fun _=>z0⟩ ?_ ?_
  ·rintro i σ M' C hi ⟨tl',ch,d4,d5,rfl,rfl,htl',U,hmu,hch,hnc⟩ hC
   have hk:i+1<gr.length:=by omega
   rw[show(1:Int)+(i:Int)=((i+1:Nat):Int) by omega]
   simp only[Jx]
   walk_at "ev"
   refine ix_l (Z4 hf) (Jb hk) ?_
   simp only[g3]
   refine⟨_,_,gr.length,wy gr,tl',Yv gr gr.length (i+1),rfl,rT _,Z4 (hrow _ hk),htl',hpos,fun p hp=>(Vj.mp hp).1,U.tr,fun o ho=>?_⟩
   have fr:=Z79 (gr:=gr) (n:=gr.length) (k:=i+1) (t:=tf tl')
   obtain⟨p0,hp1,hp2⟩:=num.up (i+1) hk (by omega)
   have hp0:p0∈Sc (tf tl') (Yv gr gr.length (i+1)):=(fr p0).mpr ⟨by omega,hp2,U.from hk hp1⟩
   rcases ho with⟨_,hnil⟩ | ⟨r,rfl,lca⟩
   ·rw[hnil] at hp0;exact absurd hp0 List.not_mem_nil
   obtain⟨hlt,U2,hle⟩:=U.put num hk (by omega) fr lca
   have hkl:i+1<tl'.length:=by omega
   simp only[optD]
   try walk_at "ev"
   refine ix_l (rT _) (Zh0 hkl) ?_
   have change:(∀u,tf tl' (i+1)=some u→r<u)→C [some (.ref a),some (.ref M.length),some (.ref (M1.length+(0+1))),some (.bl true),some (.int ((i+1:Nat):Int)),some (.int (r:Nat))] (M1++[.lst [.non],.lst ((tl'.set (i+1) (some r)).map optD)]):=by
    intro hu
    have:=Zz1 (n:=gr.length) (m:=r) hkl (by omega) hu
    refine hC _ _ ⟨tl'.set (i+1) (some r),true,_,_,rfl,rfl,by rw[List.length_set];exact htl',?_,by omega,fun _=>by omega,fun h=>by cases h⟩
    rw[Zx1 hkl]
    exact U2
   have put:(∀u,tf tl' (i+1)=some u→r<u)→((∃xs k j,D.int ((i+1:Nat):Int)= .int k∧Zd (M1++[.lst [.non],.lst (tl'.map optD)]) (M1.length+(0+1))=some xs∧ixN xs.length k=some j∧
     C [some (.ref a),some (.ref M.length),some (.ref (M1.length+(0+1))),some (.bl true),some (.int ((i+1:Nat):Int)),some (.int (r:Nat))] ((M1++[.lst [.non],.lst (tl'.map optD)]:Z2).set (M1.length+(0+1)) (Cell.lst (xs.set j (.int (r:Nat))))))∨
     (∃kvs k,Zm (M1++[.lst [.non],.lst (tl'.map optD)]) (M1.length+(0+1))=some kvs∧keyD (.int ((i+1:Nat):Int))=some k∧kvs.length<sizeLine∧C [some (.ref a),some (.ref M.length),some (.ref (M1.length+(0+1))),some (.bl true),some (.int ((i+1:Nat):Int)),some (.int (r:Nat))] ((M1++[.lst [.non],.lst (tl'.map optD)]:Z2).set (M1.length+(0+1)) (Cell.dct (putD kvs k (.int (r:Nat))))))):=by
    intro hu
    refine .inl ⟨_,_,i+1,rfl,wT _,?_,?_⟩
    ·unfold ixN
     rw[if_pos (by omega),if_pos (by rw[List.length_map];omega),Int.toNat_natCast]
    ·rw[Wn]
     have:=change hu
     rw[List.map_set] at this
     exact this
   cases e:tf tl' (i+1) with
   | none=>
    simp only[optD]
    rw[show ∀(M:Z2) (i:Int) (B:Bool→Prop),eqD M (.int i) .non B=B false from fun _ _ _=>rfl]
    rw[if_pos rfl]
    exact put (by intro u hu;rw[e] at hu;cases hu)
   | some u=>
    simp only[optD]
    rw[eq_i]
    by_cases eu:r=u
    ·subst eu
     rw[if_neg (by simp)]
     refine hC _ _ ⟨tl',ch,_,_,rfl,rfl,htl',U.pass num hk (by omega) fr lca e,hmu,hch,fun hc x m hx hm=>?_⟩
     by_cases hxi:x<i+1
     ·exact hnc hc x m hxi hm
     ·have ex:x=i+1:=by omega
      subst ex
      rw[e] at hm
      cases hm
      exact⟨_,fr,lca⟩
    ·rw[if_pos (by simp;omega)]
     refine put fun v hv=>?_
     have:=hle v hv
     rw[e] at hv
     cases hv
     omega
  ·rintro σ M' ⟨tl',ch,d4,d5,rfl,rfl,htl',U,hmu,hch,hnc⟩
   have en:((gr.length:Int) - 1).toNat+1=gr.length:=by omega
   rw[en] at U hnc
   refine⟨2 * mu gr.length tl'+(if ch=true then 1 else 0),?_,tl',ch,d4,d5,False,rfl,rfl,rfl,htl',fun _=>U.again,fun hc=>⟨U.tr,fun x h1 h2=>U.told x h1 h2 (.inl h2),fun x m hm=>hnc hc x m (U.tr.dn x (by rw[hm];rfl)) hm⟩⟩
   cases ch with
   | true=>have:=hch rfl;simp;omega
   | false=>simp;omega
end
def Zn:DSp:=fun ds M Q _=>∃(a one other n:Nat) (g:Nat→List Nat) (ms:List Nat),ds=[.ref a,.int one,.int other]∧Z7 M a=some (Zf9 ms)∧GT.Num g n∧G6 g n ms∧other<n∧∀b:Bool,(b=true↔¬GT.Av g one other)→Q (.bl b) M
noncomputable def prT(p:Nat×Nat):D:= .tup [.int p.1,.int p.2]
theorem Gg{ps:List (Nat×Nat)}{i:Nat}{d:D}(h:(ps.map prT)[i]?=some d):∃p,ps[i]?=some p∧d= .tup [.int p.1,.int p.2]:=by
 rw[List.getElem?_map,Option.map_eq_some_iff] at h
 obtain⟨p,h1,rfl⟩:=h
 exact⟨p,h1,rfl⟩
def Zl1(gr:List Nd)(ps:List (Nat×Nat)):Prop:=(∀a b,(a,b)∈ps↔a<gr.length∧b∈wy gr a∧b≤a)∧ps.length≤2 * gr.length
def Zo:DSp:=fun ds M Q _=>∃(a:Nat) (gr:List Nd),ds=[.ref a]∧Z7 M a=some (gr.map Nd.d)∧gr.length≤1000∧
 ∀ps M' r,Zl1 gr ps→Kp M M'→Zd M' r=some (ps.map prT)→M.length≤r→Q (.ref r) M'
def X9(gr:List Nd)(i:Nat)(l:List Nat)(ps:List (Nat×Nat)):Prop:=∀a b,(a,b)∈ps↔(a<i∧b∈wy gr a∧b≤a)∨(a=i∧b∈l∧b≤i)
theorem X9.yes{gr:List Nd}{i j g:Nat}{l:List Nat}{ps:List (Nat×Nat)}(h:X9 gr i (l.take j) ps)(hg:l[j]?=some g)(hl:g≤i):X9 gr i (l.take (j+1)) (ps++[(i,g)]):=by
 intro a b
 rw[List.mem_append,List.mem_singleton,h a b,Zg hg,List.mem_append,List.mem_singleton,Prod.mk.injEq]
 constructor
 ·rintro((h | ⟨h1,h2,h3⟩) | ⟨rfl,rfl⟩)
  ·exact .inl h
  ·exact .inr ⟨h1,.inl h2,h3⟩
  ·exact .inr ⟨rfl,.inr rfl,hl⟩
 ·rintro(h | ⟨h1,h2 | h2,h3⟩)
  ·exact .inl (.inl h)
  ·exact .inl (.inr ⟨h1,h2,h3⟩)
  ·exact .inr ⟨h1,h2⟩
theorem X9.no{gr:List Nd}{i j g:Nat}{l:List Nat}{ps:List (Nat×Nat)}(h:X9 gr i (l.take j) ps)(hg:l[j]?=some g)(hl:¬g≤i):X9 gr i (l.take (j+1)) ps:=by
 intro a b
 rw[h a b,Zg hg,List.mem_append,List.mem_singleton]
 constructor
 ·rintro(h | ⟨h1,h2,h3⟩)
  ·exact .inl h
  ·exact .inr ⟨h1,.inl h2,h3⟩
 ·rintro(h | ⟨h1,h2 | h2,h3⟩)
  ·exact .inl h
  ·exact .inr ⟨h1,h2,h3⟩
  ·exact absurd (h2 ▸ h3) hl
theorem X9.next{gr:List Nd}{i:Nat}{l:List Nat}{ps:List (Nat×Nat)}(h:X9 gr i l ps)(hl:∀b,b∈l↔b∈wy gr i):X9 gr (i+1) [] ps:=by
 intro a b
 rw[h a b,hl b]
 constructor
 ·rintro(⟨h1,h2⟩ | ⟨rfl,h2⟩)
  ·exact .inl ⟨by omega,h2⟩
  ·exact .inl ⟨by omega,h2⟩
 ·rintro(⟨h1,h2⟩ | ⟨_,h2,_⟩)
  ·by_cases e:a=i
   ·subst e;exact .inr ⟨rfl,h2⟩
   ·exact .inl ⟨by omega,h2⟩
  ·cases h2
theorem X9.zero(gr:List Nd):X9 gr 0 [] []:=by
 intro a b
 constructor
 ·intro h;cases h
 ·rintro(⟨h,_⟩ | ⟨_,h,_⟩)
  ·omega
  ·cases h
theorem X9.all{gr:List Nd}{ps:List (Nat×Nat)}(h:X9 gr gr.length [] ps)(hl:ps.length≤2 * gr.length):Zl1 gr ps:=by
 refine⟨fun a b=>?_,hl⟩
 rw[h a b]
 constructor
 ·rintro(h | ⟨_,h,_⟩)
  ·exact h
  ·cases h
 ·exact .inl
section
variable{K:PySem.W.Frag}
theorem Zm9{Γ G}:RR ⟨K,Γ,G⟩ b_stands_above Xh Zn:=by
 rintro ds M Q Z ⟨a,one,other,n,g,ms,rfl,hr,num,mo,ho,q⟩
 simp only[b_stands_above,Xh]
 walk_at "ev"
 refine⟨fun m σ M'=>∃p:Nat,m=p∧σ=[some (.ref a),some (.int one),some (.int other),some (.int (p:Nat))]∧M'=M∧p<n∧(GT.Av g one p↔GT.Av g one other),⟨_,other,rfl,rfl,rfl,ho,Iff.rfl⟩,?_⟩
 rintro p σ M' ⟨_,rfl,rfl,rfl,hp,hi⟩
 walk_at "ev"
 split
 ·rename_i hlt
  have hlt:one<p:=by omega
  obtain⟨k,rfl⟩:∃k,p=k+1:=⟨p - 1,by omega⟩
  have hk:k<ms.length:=by have:=mo.1;omega
  have hm:ms[k]?=some ms[k]:=List.getElem?_eq_getElem hk
  generalize ms[k]=u at hm
  have must:=mo.2 k u hm
  have lt:=must.lt num hp
  simp only[Wv]
  walk_at "ev"
  refine ix_l (k:=k+1) hr (show(Zf9 ms)[k+1]?=some (.int (u:Nat)) from Zy hm) ?_
  exact⟨u,lt,u,rfl,rfl,by omega,(GT.Must.step num hp must hlt).symm.trans hi⟩
 ·rename_i hge
  simp only[Wt]
  walk_at "ev"
  refine q _ ?_
  rw[decide_eq_true_eq]
  constructor
  ·intro e
   have e:p=one:=by omega
   subst e
   intro z
   exact GT.Oh (hi.mpr z)
  ·intro h
   by_cases e:p=one
   ·rw[e]
   ·exact absurd (hi.mp (GT.Y16 num p hp (by omega))) h
theorem Y31{Γ G}(g0:Γ[0]?=some Zx):RR ⟨K,Γ,G⟩ b_ways_back Wo Zo:=by
 rintro ds M Q Z ⟨a,gr,rfl,hr,hn,q⟩
 simp only[b_ways_back,Wo]
 walk_at "ev"
 refine⟨Z1 (by decide),_,Z4 hr,?_⟩
 refine X3 (fun i σ M'=>∃d2 d3 d4 ps,σ=[some (.ref a),some (.ref M.length),d2,d3,d4]∧M'=M++[.lst (ps.map prT)]∧X9 gr i [] ps∧ps.length≤2 * i) ⟨none,none,none,[],rfl,rfl,X9.zero gr,Nat.le_refl _⟩ ?_ ?_ ?_
 ·rintro i σ M' _ ⟨d2,d3,d4,ps,rfl,rfl,_⟩
  exact⟨_,Z4 hr,rfl⟩
 ·rintro i dx σ M' C hx ⟨d2,d3,d4,ps,rfl,rfl,hb,hl⟩ hC
  obtain⟨x,hx2,rfl⟩:=Fc hx
  have hi:i<gr.length:=by have:=(List.getElem?_eq_some_iff.mp hx2).1;rwa[List.length_map] at this
  obtain⟨nd,hd⟩:∃nd,gr[i]?=some nd:=⟨_,List.getElem?_eq_getElem hi⟩
  rw[Qk hd] at hx2
  cases hx2
  simp only[Th]
  walk_at "ev"
  simp only[g0]
  refine⟨nd,rfl,?_⟩
  walk_at "ev"
  refine X3 (fun j σ M'=>∃d4 ps,σ=[some (.ref a),some (.ref M.length),some (.int i),some nd.d,d4]∧M'=M++[.lst (ps.map prT)]∧X9 gr i (nd.gs.reverse.take j) ps∧ps.length≤2 * i+j) ⟨_,ps,rfl,rfl,hb,hl⟩ (fun _ _ _ _ _=>trivial) ?_ ?_
  ·rintro j dx σ M' C2 hx ⟨d4,ps,rfl,rfl,hb,hl⟩ hC2
   have hj:j<nd.gs.reverse.length:=by have:=(List.getElem?_eq_some_iff.mp hx).1;rwa[Z6] at this
   have hj2:j<2:=by have:=nd.gs_two;rw[List.length_reverse] at hj;omega
   have hgj:nd.gs.reverse[j]?=some nd.gs.reverse[j]:=List.getElem?_eq_getElem hj
   generalize nd.gs.reverse[j]=g at hgj
   rw[Zy hgj] at hx
   cases hx
   simp only[Tf]
   walk_at "ev"
   split
   ·rename_i hle
    refine⟨Zi (Z9 _ _ []),Z1 (by decide),_,Za _ _ [],by rw[List.length_map];exact Z8 (by omega),?_⟩
    rw[Xg]
    refine hC2 _ _ ⟨_,ps++[(i,g)],rfl,by rw[List.map_append];rfl,hb.yes hgj (by omega),by rw[List.length_append,List.length_singleton];omega⟩
   ·rename_i hle
    exact hC2 _ _ ⟨_,ps,rfl,rfl,hb.no hgj (by omega),by omega⟩
  ·rintro σ M' ⟨d4,ps,rfl,rfl,hb,hl⟩
   rw[Z6] at hb hl
   rw[List.take_length] at hb
   refine hC _ _ ⟨_,_,_,ps,rfl,rfl,hb.next fun b=>by rw[O9 hd,List.mem_reverse],?_⟩
   have:=nd.gs_two
   rw[List.length_reverse] at hl
   omega
 ·rintro σ M' ⟨d2,d3,d4,ps,rfl,rfl,hb,hl⟩
  simp only[Tk]
  walk_at "ev"
  rw[E4,List.length_map] at hb hl
  exact q ps _ _ (hb.all hl) (Kp.new _ _) (Za _ _ []) (Nat.le_refl _)
theorem Zs7{Γ G}(g0:Γ[16]?=some Yb):RR ⟨K,Γ,G⟩ b_Lback Ow Zo:=by
 rintro ds M Q Z ⟨a,gr,rfl,hr,hn,q⟩
 simp only[b_Lback,Ow]
 walk_at "ev"
 refine⟨Z1 (by decide),Y8 (Z4 hr) ⟨by omega,by rw[List.length_map];omega,?_⟩⟩
 rw[Int.toNat_natCast,List.length_map]
 refine Rk (fun i σ M'=>∃d2 d3 ps N,σ=[some (.ref a),some (.ref M.length),d2,d3]∧M'=M++ .lst (ps.map prT)::N∧X9 gr i [] ps∧ps.length≤2 * i) ⟨none,none,[],[],rfl,rfl,X9.zero gr,Nat.le_refl _⟩ ?_ ?_
 ·rintro i σ M' C hi ⟨d2,d3,ps,N,rfl,rfl,hb,hl⟩ hC
  obtain⟨nd,hd⟩:∃nd,gr[i]?=some nd:=⟨_,List.getElem?_eq_getElem hi⟩
  simp only[Jo,Int.zero_add]
  walk_at "ev"
  refine ix_l (Z4 hr) (Qk hd) ?_
  simp only[g0]
  refine⟨nd,rfl,?_⟩
  walk_at "ev"
  rw[List.append_assoc,List.cons_append]
  have el:(M++ .lst (ps.map prT)::N).length=M.length+(N.length+1):=by simp
  rw[el]
  have rd:∀ps:List (Nat×Nat),Z7 (M++ .lst (ps.map prT)::(N++[.lst (natD nd.gs)])) (M.length+(N.length+1))=some (natD nd.gs):=fun ps=>by
   rw[Yw]
   exact Z9 N _ []
  refine⟨_,rd ps,?_⟩
  refine X3 (fun j σ M'=>∃d3 ps,σ=[some (.ref a),some (.ref M.length),some (.int i),d3]∧M'=M++ .lst (ps.map prT)::(N++[.lst (natD nd.gs)])∧X9 gr i (nd.gs.take j) ps∧ps.length≤2 * i+j) ⟨_,ps,rfl,rfl,hb,hl⟩ ?_ ?_ ?_
  ·rintro j σ M' _ ⟨d3,ps,rfl,rfl,_⟩
   exact rd ps
  ·rintro j dx σ M' C2 hx ⟨d3,ps,rfl,rfl,hb,hl⟩ hC2
   have hj:j<nd.gs.length:=by have:=(List.getElem?_eq_some_iff.mp hx).1;rwa[Z6] at this
   have hj2:j<2:=by have:=nd.gs_two;omega
   have hgj:nd.gs[j]?=some nd.gs[j]:=List.getElem?_eq_getElem hj
   generalize nd.gs[j]=g at hgj
   rw[Zy hgj] at hx
   cases hx
   simp only[Jn]
   walk_at "ev"
   split
   ·rename_i hle
    refine⟨Zi (Z9 _ _ _),Z1 (by decide),_,Za _ _ _,by rw[List.length_map];exact Z8 (by omega),?_⟩
    rw[Xg]
    refine hC2 _ _ ⟨_,ps++[(i,g)],rfl,by rw[List.map_append];rfl,hb.yes hgj (by omega),by rw[List.length_append,List.length_singleton];omega⟩
   ·rename_i hle
    exact hC2 _ _ ⟨_,ps,rfl,rfl,hb.no hgj (by omega),by omega⟩
  ·rintro σ M' ⟨d3,ps,rfl,rfl,hb,hl⟩
   rw[Z6] at hb hl
   rw[List.take_length] at hb
   refine hC _ _ ⟨_,_,ps,_,rfl,rfl,hb.next fun b=>by rw[O9 hd],?_⟩
   have:=nd.gs_two
   omega
 ·rintro σ M' ⟨d2,d3,ps,N,rfl,rfl,hb,hl⟩
  simp only[Jw]
  walk_at "ev"
  exact q ps _ _ (hb.all hl) (Kp.new _ _) (Za _ _ _) (Nat.le_refl _)
end
theorem Nc:∀{a b:List Nat},a.Pairwise (· < ·)→b.Pairwise (· < ·)→(∀x,x∈a↔x∈b)→a=b
 | [],[],_,_,_=>rfl
 | [],y::b,_,_,h=>by have:=(h y).mpr List.mem_cons_self;cases this
 | x::a,[],_,_,h=>by have:=(h x).mp List.mem_cons_self;cases this
 | x::a,y::b,h1,h2,h=>by
  rw[List.pairwise_cons] at h1 h2
  have e:x=y:=by
   have hx:=(h x).mp List.mem_cons_self
   have hy:=(h y).mpr List.mem_cons_self
   rcases List.mem_cons.mp hx with e | hx
   ·exact e
   ·rcases List.mem_cons.mp hy with e | hy
    ·exact e.symm
    ·have:=h1.1 y hy
     have:=h2.1 x hx
     omega
  subst e
  rw[Nc h1.2 h2.2 fun z=>?_]
  have hz:=h z
  rw[List.mem_cons,List.mem_cons] at hz
  constructor
  ·intro hm
   rcases hz.mp (.inr hm) with e | r
   ·have:=h1.1 z hm;omega
   ·exact r
  ·intro hm
   rcases hz.mpr (.inr hm) with e | r
   ·have:=h2.1 z hm;omega
   ·exact r
noncomputable def intL(l:List Nat):List Int:=l.map fun(x:Nat)=>(x:Int)
theorem Ng(l:List Nat):(intL l).map D.int=natD l:=by unfold intL natD;rw[List.map_map];rfl
theorem Ef{ms:List Int}{ks:List Nat}(h1:ms.Pairwise (· < ·))(h2:∀i,i∈ms↔i∈intL ks):∃hs:List Nat,ms=intL hs∧hs.Pairwise (· < ·)∧∀h,h∈hs↔h∈ks:=by
 have nn:∀i∈ms,∃k:Nat,k∈ks∧i=(k:Int):=by
  intro i hi
  obtain⟨k,hk,e⟩:=List.mem_map.mp ((h2 i).mp hi)
  exact⟨k,hk,e.symm⟩
 have e:ms=intL (ms.map Int.toNat):=by
  unfold intL
  rw[List.map_map]
  have:∀i∈ms,((fun(x:Nat)=>(x:Int)) ∘ Int.toNat) i=i:=by
   intro i hi
   obtain⟨k,_,rfl⟩:=nn i hi
   rfl
  rw[List.map_congr_left this,List.map_id']
 refine⟨ms.map Int.toNat,e,?_,fun h=>?_⟩
 ·rw[List.pairwise_map]
  refine h1.imp_of_mem ?_
  intro a b ha hb hab
  obtain⟨k,_,rfl⟩:=nn a ha
  obtain⟨l,_,rfl⟩:=nn b hb
  omega
 ·rw[List.mem_map]
  constructor
  ·rintro⟨i,hi,rfl⟩
   obtain⟨k,hk,rfl⟩:=nn i hi
   exact hk
  ·intro hk
   exact⟨(h:Int),(h2 _).mpr (List.mem_map.mpr ⟨h,hk,rfl⟩),rfl⟩
def Q8(gr:List Nd)(hs:List Nat):Prop:=hs.Pairwise (· < ·)∧∀h,h∈hs↔∃a,a<gr.length∧h∈wy gr a∧h≤a∧¬GT.Av (wy gr) h a
theorem Q8.lt{gr:List Nd}{a:List Nat}(N:GT.Num (wy gr) gr.length)(h:Q8 gr a):∀x∈a,x<gr.length:=by
 intro x hx
 obtain⟨k,hk,hw,_⟩:=(h.2 x).mp hx
 exact N.cl k hk x hw
def Zu:DSp:=fun ds M Q _=>∃(a:Nat) (gr:List Nd),ds=[.ref a]∧Z7 M a=some (gr.map Nd.d)∧gr.length≤31∧GT.Num (wy gr) gr.length∧
 ∀hs M' r,Q8 gr hs→hs.length<64→Kp M M'→Zd M' r=some (natD hs)→M.length≤r→Q (.ref r) M'
noncomputable def hsD(ks:List Nat):List (Key×D):=ks.map fun(k:Nat)=>(Sum.inl (k:Int),D.bl true)
theorem Eh(ks:List Nat):(hsD ks).map (·.1)=(intL ks).map Sum.inl:=by unfold hsD intL;rw[List.map_map,List.map_map];rfl
theorem Z22(ks:List Nat)(g:Nat):putD (hsD ks) (.inl (g:Int)) (.bl true)=hsD (if g∈ks then ks else ks++[g]):=by
 unfold putD
 have e:((hsD ks).any fun kv=>decide (kv.1=Sum.inl (g:Int)))=decide (g∈ks):=by
  rw[Bool.eq_iff_iff,List.any_eq_true,decide_eq_true_eq]
  constructor
  ·rintro⟨kv,h1,h2⟩
   obtain⟨k,hk,rfl⟩:=List.mem_map.mp h1
   rw[decide_eq_true_eq] at h2
   have h3:(k:Int)=(g:Int):=by injection h2
   have:k=g:=by omega
   exact this ▸ hk
  ·intro hg
   exact⟨_,List.mem_map.mpr ⟨g,hg,rfl⟩,by simp⟩
 rw[e]
 by_cases hg:g∈ks
 ·rw[if_pos (decide_eq_true hg),if_pos hg]
  unfold hsD
  rw[List.map_map]
  refine List.map_congr_left fun k _=>?_
  show(if Sum.inl (k:Int)=Sum.inl (g:Int) then _ else _)=_
  split<;>rfl
 ·rw[if_neg (by rw[decide_eq_true_eq];exact hg),if_neg hg]
  unfold hsD
  rw[List.map_append]
  rfl
section
variable{K:PySem.W.Frag}
theorem Zp5{Γ G}(g4:Γ[4]?=some Zl)(g5:Γ[5]?=some Zn)(g6:Γ[6]?=some Zo):RR ⟨K,Γ,G⟩ b_heads O8 Zu:=by
 rintro ds M Q Z ⟨a,gr,rfl,hr,hn,num,q⟩
 simp only[b_heads,O8]
 walk_at "ev"
 simp only[g4,g6]
 refine⟨a,gr,rfl,hr,by omega,num,fun ms M1 r1 mo k1 hw1 _=>?_⟩
 walk_at "ev"
 refine⟨a,gr,rfl,Z4 (k1.L hr),by omega,fun ps M2 r2 hb k2 hw2 hr2=>?_⟩
 walk_at "ev"
 obtain⟨N,rfl⟩:=k2
 rw[List.append_assoc,List.cons_append,List.nil_append] at hw2 ⊢
 have hps:ps.length≤62:=by have:=hb.2;omega
 have r2l:∀ks,Z7 (M1++ .dct (hsD ks)::N) r2=some (ps.map prT):=by
  intro ks
  have e:(M1++Cell.dct (hsD ks)::N)=(M1++Cell.dct []::N).set M1.length (.dct (hsD ks)):=(Xg _ _ _ _).symm
  rw[e]
  have ne:M1.length≠r2:=by rw[List.length_append,List.length_singleton] at hr2;omega
  unfold Z7
  rw[List.getElem?_set_ne ne]
  exact Z0 hw2
 refine⟨_,r2l [],?_⟩
 refine X3 (fun i σ M'=>∃d3 d4 ks,σ=[some (.ref a),some (.ref r1),some (.ref M1.length),d3,d4]∧M'=M1++ .dct (hsD ks)::N∧ks.length≤i∧ks.Nodup∧∀h,h∈ks↔∃x,(x,h)∈ps.take i∧¬GT.Av (wy gr) h x) ⟨none,none,[],rfl,rfl,Nat.le_refl _,List.nodup_nil,fun h=>by simp⟩ ?_ ?_ ?_
 ·rintro i σ M' _ ⟨d3,d4,ks,rfl,rfl,_⟩
  exact r2l ks
 ·rintro i dx σ M' C hx ⟨d3,d4,ks,rfl,rfl,hl,nd,hm⟩ hC
  obtain⟨⟨x,y⟩,hp,rfl⟩:=Gg hx
  have hi:i<ps.length:=(List.getElem?_eq_some_iff.mp hp).1
  obtain⟨hx1,hx2,hx3⟩:=(hb.1 x y).mp (List.mem_of_getElem? hp)
  have more:∀h,(∃z,(z,h)∈ps.take (i+1)∧¬GT.Av (wy gr) h z)↔(∃z,(z,h)∈ps.take i∧¬GT.Av (wy gr) h z)∨(h=y∧¬GT.Av (wy gr) y x):=by
   intro h
   constructor
   ·rintro⟨z,h1,h2⟩
    rw[Zg hp,List.mem_append,List.mem_singleton,Prod.mk.injEq] at h1
    rcases h1 with h1 | ⟨rfl,rfl⟩
    ·exact .inl ⟨z,h1,h2⟩
    ·exact .inr ⟨rfl,h2⟩
   ·rintro(⟨z,h1,h2⟩ | ⟨rfl,h2⟩)
    ·exact⟨z,by rw[Zg hp];exact List.mem_append_left _ h1,h2⟩
    ·exact⟨x,by rw[Zg hp];exact List.mem_append_right _ List.mem_cons_self,h2⟩
  simp only[Jd]
  walk_at "ev"
  simp only[g5]
  refine⟨r1,y,x,gr.length,wy gr,ms,rfl,Z4 (Z0 hw1),num,mo,hx1,fun b hb'=>?_⟩
  walk_at "ev"
  cases b with
  | true=>
   try walk_at "ev"
   refine .inr ⟨_,_,Wd _ _ _,rfl,by unfold hsD;rw[List.length_map];exact Z8 (by omega),?_⟩
   rw[Xg,Z22]
   refine hC _ _ ⟨_,_,_,rfl,rfl,?_,?_,fun h=>?_⟩
   ·split
    ·omega
    ·rw[List.length_append,List.length_singleton];omega
   ·split
    ·exact nd
    ·rename_i hy
     exact List.nodup_append.mpr ⟨nd,by simp,fun a ha b hb2=>by simp at hb2;subst hb2;rintro rfl;exact hy ha⟩
   ·rw[more h,←hm h]
    have yes:¬GT.Av (wy gr) y x:=hb'.mp rfl
    split
    ·rename_i hy
     constructor
     ·exact .inl
     ·rintro(h | ⟨rfl,_⟩)
      ·exact h
      ·exact hy
    ·rw[List.mem_append,List.mem_singleton]
     constructor
     ·rintro(h | rfl)
      ·exact .inl h
      ·exact .inr ⟨rfl,yes⟩
     ·rintro(h | ⟨rfl,_⟩)
      ·exact .inl h
      ·exact .inr rfl
  | false=>
   try walk_at "ev"
   refine hC _ _ ⟨_,_,ks,rfl,rfl,by omega,nd,fun h=>?_⟩
   rw[more h,←hm h]
   constructor
   ·exact .inl
   ·rintro(h | ⟨_,no⟩)
    ·exact h
    ·have:=hb'.mpr no;cases this
 ·rintro σ M' ⟨d3,d4,ks,rfl,rfl,hl,nd,hm⟩
  rw[List.length_map] at hl hm
  rw[List.take_length] at hm
  simp only[N8]
  walk_at "ev"
  refine⟨_,intL ks,Wd _ _ _,Eh ks,by unfold intL;rw[List.length_map];omega,fun ns pm sm=>?_⟩
  have ndi:(intL ks).Nodup:=by
   unfold intL List.Nodup
   rw[List.pairwise_map]
   exact nd.imp fun h z=>h (by omega)
  obtain⟨hs,rfl,h1,h2⟩:=Ef (ks:=ks) (Q6 (pm.nodup_iff.mpr ndi) sm) fun i=>pm.mem_iff
  rw[Ng]
  have hlen:hs.length=ks.length:=by have:=pm.length_eq;unfold intL at this;rwa[List.length_map,List.length_map] at this
  refine q hs _ _ ⟨h1,fun h=>?_⟩ (by omega) ?_ (Za _ _ []) ?_
  ·rw[h2 h,hm h]
   constructor
   ·rintro⟨x,hx,hd⟩
    obtain⟨a1,a2,a3⟩:=(hb.1 x h).mp hx
    exact⟨x,a1,a2,a3,hd⟩
   ·rintro⟨x,a1,a2,a3,hd⟩
    exact⟨x,(hb.1 x h).mpr ⟨a1,a2,a3⟩,hd⟩
  ·exact(k1.app _).app _
  ·obtain⟨N1,rfl⟩:=k1
   simp only[List.length_append,List.length_cons]
   omega
end
inductive Rg (g:Nat→List Nat) (n h:Nat):Nat→Prop
 | head:Rg g n h h
 | src {k:Nat}:k<n→h∈g k→¬GT.Av g h k→Rg g n h k
 | back {x y:Nat}:Rg g n h y→y≠h→x<n→y∈g x→Rg g n h x
theorem Rg.lt{g:Nat→List Nat}{n h x:Nat}(hh:h<n)(r:Rg g n h x):x<n:=by
 cases r with
 | head=>exact hh
 | src hk _ _=>exact hk
 | back _ _ hx _=>exact hx
theorem Rg.dom{g:Nat→List Nat}{n h x:Nat}(r:Rg g n h x):¬GT.Av g h x:=by
 induction r with
 | head=>exact GT.Oh
 | src _ _ hd=>exact hd
 | back _ hy _ he ih=>exact fun av=>ih (.step av he hy)
theorem O0{g:Nat→List Nat}{n a b:Nat}(N:GT.Num g n)(ha:a<n)(hb:b<n)(h1:¬GT.Av g a b)(h2:¬GT.Av g b a):a=b:=by
 have:=GT.Q1 N hb h1
 have:=GT.Q1 N ha h2
 omega
theorem Rg.round{g:Nat→List Nat}{n h1 h2:Nat}(N:GT.Num g n)(hh:h1<n)(no:¬Rg g n h1 h2)(av:GT.Av g h2 h1):∀x,Rg g n h1 x→GT.Av g h2 x:=by
 intro x
 induction x using Nat.strongRecOn with
 | ind x ih=>
  intro r
  have hx:=r.lt hh
  by_cases e:x=h1
  ·rw[e];exact av
  ·by_cases x0:x=0
   ·subst x0
    have:=GT.Q1 N hx r.dom
    omega
   ·obtain⟨p,hp,he⟩:=N.up x hx x0
    have rp:Rg g n h1 p:= .back r e (by omega) he
    exact .step (ih p hp rp) he fun z=>no (z ▸ r)
theorem Rg.inside{g:Nat→List Nat}{n h1 h2:Nat}(N:GT.Num g n)(k1:h1<n)(k2:h2<n)(ne:h1≠h2)(r:Rg g n h1 h2):∀x,Rg g n h2 x→Rg g n h1 x:=by
 have d:=r.dom
 intro x rx
 induction rx with
 | head=>exact r
 | src hk he _=>exact .back r (Ne.symm ne) hk he
 | back ry _ hx he ih=>exact .back ih (fun z=>ne (O0 N k1 k2 d (z ▸ ry.dom))) hx he
theorem Rg.apart{g:Nat→List Nat}{n h1 h2 x:Nat}(N:GT.Num g n)(k1:h1<n)(k2:h2<n)(ne:h1≠h2)(r1:Rg g n h1 x)(r2:Rg g n h2 x):(∀y,Rg g n h2 y→Rg g n h1 y)∨∀y,Rg g n h1 y→Rg g n h2 y:=by
 have one:∀{a b:Nat},a<n→b<n→a≠b→Rg g n a x→Rg g n b x→¬GT.Av g a b→∀y,Rg g n b y→Rg g n a y:=by
  intro a b ka kb ab ra rb d
  refine Rg.inside N ka kb ab ?_
  by_cases e:Rg g n a b
  ·exact e
  ·exfalso
   have av:GT.Av g b a:=by
    by_cases z:GT.Av g b a
    ·exact z
    ·exact absurd (O0 N ka kb d z) ab
   exact rb.dom (Rg.round N ka e av x ra)
 rcases GT.N7 N (r1.lt k1) ne r1.dom r2.dom with d | d
 ·exact .inl (one k1 k2 ne r1 r2 d)
 ·exact .inr (one k2 k1 (Ne.symm ne) r2 r1 d)
def Yk(gr:List Nd)(h:Nat)(l:List Nat):Prop:=l.Pairwise (· < ·)∧∀x,x∈l↔Rg (wy gr) gr.length h x
theorem Yk.nd{gr:List Nd}{h:Nat}{l:List Nat}(r:Yk gr h l):l.Nodup:=r.1.imp fun a=>Nat.ne_of_lt a
theorem Yk.uniq{gr:List Nd}{h:Nat}{a b:List Nat}(r1:Yk gr h a)(r2:Yk gr h b):a=b:=Nc r1.1 r2.1 fun x=>(r1.2 x).trans (r2.2 x).symm
theorem Yk.len{gr:List Nd}{h:Nat}{l:List Nat}(hh:h<gr.length)(r:Yk gr h l):l.length≤gr.length:=GT.Xo r.nd fun x hx=>((r.2 x).mp hx).lt hh
theorem Qu{a b:List Nat}(na:a.Nodup)(h:∀x∈a,x∈b):a.length≤b.length:=by
 induction a generalizing b with
 | nil=>exact Nat.zero_le _
 | cons x r ih=>
  have na:=List.nodup_cons.mp na
  have hx:=h x List.mem_cons_self
  have:=ih (b:=b.erase x) na.2 fun y hy=>by
   have:y≠x:=fun z=>na.1 (z ▸ hy)
   exact(List.mem_erase_of_ne this).mpr (h y (List.mem_cons_of_mem _ hy))
  rw[List.length_erase_of_mem hx] at this
  have:=List.length_pos_of_mem hx
  rw[List.length_cons]
  omega
theorem Bb{a b:List Nat}(na:a.Nodup)(nb:b.Nodup)(h:∀x∈a,x∈b)(l:b.length≤a.length):∀x∈b,x∈a:=by
 intro x hx
 by_cases e:x∈a
 ·exact e
 ·exfalso
  have:=Qu (a:=x::a) (b:=b) (List.nodup_cons.mpr ⟨e,na⟩) fun y hy=>by
   rcases List.mem_cons.mp hy with rfl | hy
   ·exact hx
   ·exact h y hy
  rw[List.length_cons] at this
  omega
theorem Yk.unlike{gr:List Nd}{h1 h2 x:Nat}{a b:List Nat}(N:GT.Num (wy gr) gr.length)(k1:h1<gr.length)(k2:h2<gr.length)(r1:Yk gr h1 a)(r2:Yk gr h2 b)(m1:x∈a)(m2:x∈b)(l:a.length=b.length):h1=h2:=by
 by_cases ne:h1=h2
 ·exact ne
 ·exfalso
  have i1:h1∈a:=(r1.2 h1).mpr .head
  have i2:h2∈b:=(r2.2 h2).mpr .head
  have both:(∀y∈a,y∈b)∧∀y∈b,y∈a:=by
   rcases Rg.apart N k1 k2 ne ((r1.2 x).mp m1) ((r2.2 x).mp m2) with s | s
   ·have s':∀y∈b,y∈a:=fun y hy=>(r1.2 y).mpr (s y ((r2.2 y).mp hy))
    exact⟨Bb r2.nd r1.nd s' (by omega),s'⟩
   ·have s':∀y∈a,y∈b:=fun y hy=>(r2.2 y).mpr (s y ((r1.2 y).mp hy))
    exact⟨s',Bb r1.nd r2.nd s' (by omega)⟩
  exact ne (O0 N k1 k2 ((r1.2 h2).mp (both.2 h2 i2)).dom ((r2.2 h1).mp (both.1 h1 i1)).dom)
theorem Yj{M:Z2}{r:Nat}{xs ys:List D}(h:Zd M r=some xs):Zd (M.set r (.lst ys)) r=some ys:=by
 have:=Wi h
 have hl:r<M.length:=by
  by_cases z:r<M.length
  ·exact z
  ·rw[List.getElem?_eq_none (by omega)] at this;cases this
 unfold Zd
 rw[List.getElem?_set_self hl]
theorem Qd{M:Z2}{r:Nat}{xs ys:List (Key×D)}(h:Zm M r=some xs):Zm (M.set r (.dct ys)) r=some ys:=by
 have hl:=Xn h
 unfold Zm
 rw[List.getElem?_set_self hl]
theorem X8{M:Z2}{r:Nat}{xs:List D}(h:Zd M r=some xs):r<M.length:=by
 have:=Wi h
 by_cases z:r<M.length
 ·exact z
 ·rw[List.getElem?_eq_none (by omega)] at this;cases this
theorem Yr{M:Z2}{a b:Nat}{c:Cell}{xs:List D}(h:Zd M a=some xs)(n:b≠a):Zd (M.set b c) a=some xs:=by rw[J9 n];exact h
theorem Tz{M:Z2}{a b:Nat}{c:Cell}{xs:List (Key×D)}(h:Zm M a=some xs)(n:b≠a):Zm (M.set b c) a=some xs:=by rw[Nw n];exact h
theorem Kp.set{M M':Z2}{r:Nat}(h:Kp M M')(hr:M.length≤r)(c:Cell):Kp M (M'.set r c):=by
 obtain⟨L,rfl⟩:=h
 exact⟨L.set (r - M.length) c,by rw[List.set_append_right _ _ hr]⟩
theorem Kp.len{M M':Z2}(h:Kp M M'):M.length≤M'.length:=by obtain⟨L,rfl⟩:=h;rw[List.length_append];omega
theorem Kp.D{M M':Z2}{a:Nat}{xs:List (Key×D)}(h:Kp M M')(e:Zm M a=some xs):Zm M' a=some xs:=by obtain⟨L,rfl⟩:=h;exact Wh e
theorem Ve{M:Z2}{x y:Nat}{l:List Nat}{B:Bool→Prop}(h1:Z7 M x=some (natD l))(h2:Z7 M y=some [])(q:B l.isEmpty):eqD M (.ref x) (.ref y) B:=by
 have lay:∀l:List Nat,PyData.canLayAll0 (l.map fun(x:Nat)=>PyData.int (x:Int))=true:=by
  intro l
  induction l with
  | nil=>rfl
  | cons p r ih=>rw[List.map_cons];unfold PyData.canLayAll0;rw[ih];rfl
 have pd:∀l:List Nat,PDs M (l.map fun(x:Nat)=>PyData.int (x:Int)) (natD l):=by
  intro l
  induction l with
  | nil=>rfl
  | cons p r ih=>exact⟨_,_,rfl,rfl,ih⟩
 refine .inl ⟨.list (l.map fun(x:Nat)=>PyData.int (x:Int)),.list [],⟨x,_,rfl,h1,pd l⟩,⟨y,_,rfl,h2,rfl⟩,lay l,rfl,?_,?_⟩
 ·exact Nat.le_trans (Nat.min_le_right _ _) (by decide)
 ·cases l with
  | nil=>exact q
  | cons p r=>exact q
inductive Clo (lk:Nat→List Nat) (st:List Nat) (h:Nat):Nat→Prop
 | st {x:Nat}:x∈st→x≠h→Clo lk st h x
 | go {x y:Nat}:Clo lk st h y→x∈lk y→x≠h→Clo lk st h x
theorem Clo.ne{lk:Nat→List Nat}{st:List Nat}{h x:Nat}(c:Clo lk st h x):x≠h:=by
 cases c with
 | st _ h=>exact h
 | go _ _ h=>exact h
theorem Eg{g:Nat→List Nat}{n h:Nat}{lk:Nat→List Nat}{st:List Nat}(hst:∀k,k∈st↔k<n∧h∈g k∧¬GT.Av g h k)(hlk:∀y,y<n→∀x,x∈lk y↔x<n∧y∈g x)(hh:h<n)(x:Nat):(x=h∨Clo lk st h x)↔Rg g n h x:=by
 constructor
 ·have key:∀x,Clo lk st h x→Rg g n h x:=by
   intro x c
   induction c with
   | st hx _=>obtain⟨h1,h2,h3⟩:=(hst _).mp hx;exact .src h1 h2 h3
   | go cy hx _ ih=>
    obtain⟨h1,h2⟩:=(hlk _ (ih.lt hh) _).mp hx
    exact .back ih cy.ne h1 h2
  rintro(rfl | c)
  ·exact .head
  ·exact key x c
 ·intro r
  induction r with
  | head=>exact .inl rfl
  | src h1 h2 h3=>
   rename_i k
   by_cases e:k=h
   ·exact .inl e
   ·exact .inr (.st ((hst k).mpr ⟨h1,h2,h3⟩) e)
  | back ry hy hx he ih=>
   rename_i x y
   by_cases e:x=h
   ·exact .inl e
   ·exact .inr (.go (ih.resolve_left hy) ((hlk y (ry.lt hh) x).mpr ⟨hx,he⟩) e)
structure Cw(lk:Nat→List Nat)(st:List Nat)(h:Nat)(ks T:List Nat):Prop where
 nd:ks.Nodup
 hd:h∈ks
 s1:∀x∈ks,x=h∨Clo lk st h x
 s2:∀x∈T,x=h∨Clo lk st h x
 c1:∀x∈st,x∈ks∨x∈T
 c2:∀y∈ks,y≠h→∀x∈lk y,x∈ks∨x∈T
theorem Cw.begin(lk:Nat→List Nat)(st:List Nat)(h:Nat):Cw lk st h [h] st where
 nd:=by simp
 hd:=by simp
 s1:=fun x hx=> .inl (List.mem_singleton.mp hx)
 s2:=fun x hx=>by
  by_cases e:x=h
  ·exact .inl e
  ·exact .inr (.st hx e)
 c1:=fun x hx=> .inr hx
 c2:=fun y hy ne=>absurd (List.mem_singleton.mp hy) ne
theorem Cw.old{lk:Nat→List Nat}{st:List Nat}{h x:Nat}{ks T:List Nat}(c:Cw lk st h ks (T++[x]))(hx:x∈ks):Cw lk st h ks T where
 nd:=c.nd
 hd:=c.hd
 s1:=c.s1
 s2:=fun y hy=>c.s2 y (List.mem_append_left _ hy)
 c1:=fun y hy=>by
  rcases c.c1 y hy with z | z
  ·exact .inl z
  ·rcases List.mem_append.mp z with z | z
   ·exact .inr z
   ·rw[List.mem_singleton.mp z];exact .inl hx
 c2:=fun y hy ne u hu=>by
  rcases c.c2 y hy ne u hu with z | z
  ·exact .inl z
  ·rcases List.mem_append.mp z with z | z
   ·exact .inr z
   ·rw[List.mem_singleton.mp z];exact .inl hx
theorem Cw.new{lk:Nat→List Nat}{st:List Nat}{h x:Nat}{ks T:List Nat}(c:Cw lk st h ks (T++[x]))(hx:x∉ks):Cw lk st h (ks++[x]) (T++lk x):=by
 have cx:Clo lk st h x:=(c.s2 x (by simp)).resolve_left fun z=>hx (z ▸ c.hd)
 have up:∀u,u∈ks∨u∈T++[x]→u∈ks++[x]∨u∈T++lk x:=by
  rintro u (z | z)
  ·exact .inl (List.mem_append_left _ z)
  ·rcases List.mem_append.mp z with z | z
   ·exact .inr (List.mem_append_left _ z)
   ·exact .inl (List.mem_append_right _ z)
 refine⟨List.nodup_append.mpr ⟨c.nd,by simp,fun a ha b hb=>by rw[List.mem_singleton] at hb;subst hb;rintro rfl;exact hx ha⟩,List.mem_append_left _ c.hd,fun u hu=>?_,fun u hu=>?_,fun u hu=>up u (c.c1 u hu),fun y hy ne u hu=>?_⟩
 ·rcases List.mem_append.mp hu with z | z
  ·exact c.s1 u z
  ·rw[List.mem_singleton.mp z];exact .inr cx
 ·rcases List.mem_append.mp hu with z | z
  ·exact c.s2 u (List.mem_append_left _ z)
  ·by_cases e:u=h
   ·exact .inl e
   ·exact .inr (.go cx z e)
 ·rcases List.mem_append.mp hy with z | z
  ·exact up u (c.c2 y z ne u hu)
  ·rw[List.mem_singleton.mp z] at hu
   exact .inr (List.mem_append_right _ hu)
theorem Cw.done{lk:Nat→List Nat}{st:List Nat}{h:Nat}{ks:List Nat}(c:Cw lk st h ks [])(x:Nat):x∈ks↔x=h∨Clo lk st h x:=by
 refine⟨c.s1 x,?_⟩
 rintro(rfl | k)
 ·exact c.hd
 ·induction k with
  | st hx _=>exact(c.c1 _ hx).resolve_right List.not_mem_nil
  | go cy hx _ ih=>exact(c.c2 _ ih cy.ne _ hx).resolve_right List.not_mem_nil
def Kx(t:Nat)(M M':Z2):Prop:=M.length≤M'.length∧∀i,i<M.length→i≠t→M'[i]?=M[i]?
theorem Kx.refl(t:Nat)(M:Z2):Kx t M M:=⟨Nat.le_refl _,fun _ _ _=>rfl⟩
theorem Kx.at{t i:Nat}{M M':Z2}{c:Cell}(k:Kx t M M')(e:M[i]?=some c)(n:i≠t):M'[i]?=some c:=(k.2 i (List.getElem?_eq_some_iff.mp e).1 n).trans e
theorem Kx.W{t a:Nat}{M M':Z2}{xs:List D}(k:Kx t M M')(e:Zd M a=some xs)(n:a≠t):Zd M' a=some xs:=by
 have h:=k.at (Wi e) n
 unfold Zd;rw[h]
theorem Kx.L{t a:Nat}{M M':Z2}{xs:List D}(k:Kx t M M')(e:Z7 M a=some xs)(n:a≠t):Z7 M' a=some xs:=by
 unfold Z7 at e ⊢
 by_cases z:a<M.length
 ·rw[k.2 a z n];exact e
 ·rw[List.getElem?_eq_none (by omega)] at e;cases e
theorem Kx.app{t:Nat}{M M':Z2}(k:Kx t M M')(N:Z2):Kx t M (M'++N):=
 ⟨by rw[List.length_append];have:=k.1;omega,fun i hi n=>by rw[List.getElem?_append_left (by have:=k.1;omega)];exact k.2 i hi n⟩
theorem Kx.set{t r:Nat}{M M':Z2}(k:Kx t M M')(h:r=t∨M.length≤r)(c:Cell):Kx t M (M'.set r c):=
 ⟨by rw[List.length_set];exact k.1,fun i hi n=>by rw[List.getElem?_set_ne (by omega)];exact k.2 i hi n⟩
def Yi:DSp:=fun ds M Q _=>∃(a b t n h:Nat) (rf st:List Nat) (lk:Nat→List Nat),ds=[.ref a,.ref b,.ref t]∧n≤31∧h<n∧a≠t∧b≠t∧Z7 M a=some (rf.map .ref)∧rf.length=n∧
 (∀(k x:Nat),rf[k]?=some x→x≠t∧Zd M x=some (natD (lk k))∧(lk k).length≤62∧∀y∈lk k,y<n)∧Z7 M b=some (natD st)∧st.length≤100∧(∀x∈st,x<n)∧Zm M t=some (hsD [h])∧
 ∀ks M' r,ks.Nodup→ks.length≤n→(∀x,x∈ks↔x=h∨Clo lk st h x)→Kx t M M'→Zm M' t=some (hsD ks)→Q (.ref r) M'
theorem Zn1(ks:List Nat)(g:Nat):(valD (hsD ks) (.inl (g:Int))).isSome=decide (g∈ks):=by
 unfold valD
 induction ks with
 | nil=>simp[hsD]
 | cons k r ih=>
  unfold hsD at ih ⊢
  rw[List.map_cons,List.find?_cons]
  by_cases e:k=g
  ·subst e;simp
  ·have e':¬(Sum.inl (k:Int):Key)=Sum.inl (g:Int):=fun z=>e (by have:=Sum.inl.inj z;omega)
   rw[show decide ((Sum.inl (k:Int):Key)=Sum.inl (g:Int))=false from decide_eq_false e']
   simp only[]
   rw[ih,Bool.eq_iff_iff,decide_eq_true_eq,decide_eq_true_eq,List.mem_cons]
   exact⟨.inr,fun h=>h.resolve_left fun z=>e z.symm⟩
theorem Y67{M:Z2}{d y:Nat}{ks:List Nat}{F:Bool→Prop}(h:Zm M d=some (hsD ks))(q:F (decide (y∈ks))):inQ M (.int y) (.ref d) F:=
 .inr ⟨_,_,h,rfl,by rw[Zn1];exact q⟩
section
variable{K:PySem.W.Frag}
theorem Y06{Γ G}:RR ⟨K,Γ,G⟩ b_come_to Tg Yi:=by
 rintro ds M Q Z ⟨a,b,t,n,h,rf,st,lk,rfl,hn,hh,ta,tb,ha,hrl,hrf,hb,hsl,hst,hd,q⟩
 have htl:=Xn hd
 simp only[b_come_to,Tg]
 walk_at "ev"
 refine⟨Z1 (by decide),_,Z4 hb,?_⟩
 have el:(M++[Cell.lst []]).length=M.length+1:=by rw[List.length_append];rfl
 refine⟨fun m σ M'=>∃(ks T told:List Nat) (d5:Option D),m=63 * (n - ks.length)+T.length∧σ=[some (.ref a),some (.ref b),some (.ref t),some (.ref M.length),some (.ref (M.length+1)),d5]∧Kx t M M'∧Zm M' t=some (hsD ks)∧Zd M' M.length=some (natD told)∧told.length≤1000 * ks.length∧Zd M' (M.length+1)=some (natD T)∧Cw lk st h ks T∧(∀y∈ks,y<n)∧(∀y∈T,y<n)∧T.length≤100+62 * ks.length,
  ⟨_,[h],st,[],none,rfl,by rw[el],((Kx.refl t M).app _).app _,Wh (Wh hd),Yh (Za _ _ []),by simp,by rw[←el];exact Za _ _ [],Cw.begin lk st h,fun y hy=>by rw[List.mem_singleton.mp hy];exact hh,hst,by omega⟩,?_⟩
 rintro m σ M' ⟨ks,T,told,d5,rfl,rfl,kx,hD,hO,hol,hT,cw,hks,hTl,hTs⟩
 have hkl:=GT.Xo cw.nd hks
 walk_at "ev"
 refine⟨Z1 (by decide),?_⟩
 refine Ve (l:=T) (Z4 (Z0 hT)) (Z9 _ _ []) ?_
 have kx:=kx.app [Cell.lst []]
 have hD:=Wh (N:=[Cell.lst []]) hD
 have hT:=Yh (N:=[Cell.lst []]) hT
 have hO:=Yh (N:=[Cell.lst []]) hO
 generalize M'++[Cell.lst []]=M2 at kx hD hT hO
 obtain hnil | ⟨T0,x,hcat⟩:T=[]∨∃T0 x,T=T0++[x]:=by
  rcases List.eq_nil_or_concat T with h | ⟨a,b,h⟩
  ·exact .inl h
  ·exact .inr ⟨a,b,by rw[h,List.concat_eq_append]⟩
 ·subst hnil
  rw[if_neg (by decide)]
  simp only[Q5]
  walk_at "ev"
  exact q ks _ _ cw.nd hkl cw.done kx hD
 ·subst hcat
  rw[if_pos (by cases T0<;>rfl)]
  have hx:=hTl x (by simp)
  simp only[Rq]
  walk_at "ev"
  rw[Y9] at hT
  refine⟨Zi (Z0 hT),_,.int x,hT,by simp,?_⟩
  rw[List.dropLast_concat]
  have hD:=Tz (c:= .lst (natD T0)) hD (show M.length+1≠t by omega)
  have hO:=Yr (c:= .lst (natD T0)) hO (show M.length+1≠M.length by omega)
  have hT:=Yj (ys:=natD T0) hT
  have kx:=kx.set (r:=M.length+1) (.inr (Nat.le_succ _)) (.lst (natD T0))
  generalize M2.set (M.length+1) (.lst (natD T0))=M3 at kx hD hT hO
  rw[List.length_append,List.length_singleton] at hTs
  try walk_at "ev"
  refine Y67 hD ?_
  by_cases hm:x∈ks
  ·rw[decide_eq_true hm]
   try walk_at "ev"
   refine⟨_,?_,ks,T0,told,_,rfl,rfl,kx,hD,hO,hol,hT,cw.old hm,hks,fun y hy=>hTl y (List.mem_append_left _ hy),by omega⟩
   simp only[List.length_append,List.length_singleton]
   omega
  ·rw[decide_eq_false hm]
   try walk_at "ev"
   have hk1:(ks++[x]).length≤n:=GT.Xo (cw.new hm).nd fun y hy=>by
    rcases List.mem_append.mp hy with z | z
    ·exact hks y z
    ·rw[List.mem_singleton.mp z];exact hx
   rw[List.length_append,List.length_singleton] at hk1
   refine .inr ⟨_,_,hD,rfl,by unfold hsD;rw[List.length_map];exact Z8 (by omega),?_⟩
   rw[Z22,if_neg hm]
   have hT:=Yr (c:= .dct (hsD (ks++[x]))) hT (show t≠M.length+1 by omega)
   have hO:=Yr (c:= .dct (hsD (ks++[x]))) hO (show t≠M.length by omega)
   have hD:=Qd (ys:=hsD (ks++[x])) hD
   have kx:=kx.set (r:=t) (.inl rfl) (.dct (hsD (ks++[x])))
   generalize M3.set t (.dct (hsD (ks++[x])))=M4 at kx hD hT hO
   try walk_at "ev"
   refine⟨Zi (Z0 hO),_,hO,by rw[Z6];exact Z8 (by omega),?_⟩
   rw[←Y9]
   have hT:=Yr (c:= .lst (natD (told++[x]))) hT (show M.length≠M.length+1 by omega)
   have hD:=Tz (c:= .lst (natD (told++[x]))) hD (show M.length≠t by omega)
   have hO:=Yj (ys:=natD (told++[x])) hO
   have kx:=kx.set (r:=M.length) (.inr (Nat.le_refl _)) (.lst (natD (told++[x])))
   generalize M4.set M.length (.lst (natD (told++[x])))=M5 at kx hD hT hO
   try walk_at "ev"
   obtain⟨xr,exr⟩:∃xr,rf[x]?=some xr:=⟨_,List.getElem?_eq_getElem (by omega)⟩
   obtain⟨n1,w1,l1,y1⟩:=hrf x xr exr
   have lx:=X8 w1
   refine⟨Zi (Z0 hT),ix_l (kx.L ha ta) (by rw[List.getElem?_map,exr];rfl) ?_⟩
   try walk_at "ev"
   refine⟨_,_,hT,kx.W w1 n1,by rw[Z6,Z6];exact Z1 (by omega),?_⟩
   have ea:natD T0++natD (lk x)=natD (T0++lk x):=by unfold natD;rw[List.map_append]
   rw[ea]
   refine⟨_,?_,ks++[x],T0++lk x,told++[x],_,rfl,rfl,kx.set (r:=M.length+1) (.inr (Nat.le_succ _)) _,Tz hD (by omega),Yr hO (by omega),by simp only[List.length_append,List.length_singleton];omega,Yj hT,cw.new hm,fun y hy=>?_,fun y hy=>?_,?_⟩
   ·simp only[List.length_append,List.length_singleton]
    omega
   ·rcases List.mem_append.mp hy with z | z
    ·exact hks y z
    ·rw[List.mem_singleton.mp z];exact hx
   ·rcases List.mem_append.mp hy with z | z
    ·exact hTl y (List.mem_append_left _ z)
    ·exact y1 y z
   ·simp only[List.length_append,List.length_singleton]
    omega
end
theorem Kx.kp{t:Nat}{M M0 M':Z2}(k0:Kp M M0)(k:Kx t M0 M')(h:M.length≤t):Kp M M':=by
 obtain⟨L,rfl⟩:=k0
 refine⟨M'.drop M.length,?_⟩
 have l1:=k.1
 rw[List.length_append] at l1
 apply List.ext_getElem?
 intro i
 by_cases hi:i<M.length
 ·rw[List.getElem?_append_left hi,k.2 i (by rw[List.length_append];omega) (by omega),List.getElem?_append_left hi]
 ·rw[List.getElem?_append_right (by omega),List.getElem?_drop]
  congr 1
  omega
theorem Fb{ks:List Nat}{ms:List Int}(nd:ks.Nodup)(pm:ms.Perm (intL ks))(sm:ms.Pairwise (·≤·)):∃hs:List Nat,ms=intL hs∧hs.Pairwise (· < ·)∧∀h,h∈hs↔h∈ks:=by
 have ndi:(intL ks).Nodup:=by
  unfold intL List.Nodup
  rw[List.pairwise_map]
  exact nd.imp fun h z=>h (by omega)
 exact Ef (ks:=ks) (Q6 (pm.nodup_iff.mpr ndi) sm) fun i=>pm.mem_iff
def Yl:DSp:=fun ds M Q _=>∃(a h:Nat) (gr:List Nd),ds=[.ref a,.int h]∧Z7 M a=some (gr.map Nd.d)∧gr.length≤31∧GT.Num (wy gr) gr.length∧h<gr.length∧
 ∀l M' r,Yk gr h l→Kp M M'→Zd M' r=some (natD l)→M.length≤r→Q (.ref r) M'
section
variable{K:PySem.W.Frag}
theorem Y39{Γ G}(g1:Γ[1]?=some Zb)(g4:Γ[4]?=some Zl)(g5:Γ[5]?=some Zn)(g8:Γ[8]?=some Yi):RR ⟨K,Γ,G⟩ b_ring Gy Yl:=by
 rintro ds M Q Z ⟨a,h,gr,rfl,hr,hn,num,hh,q⟩
 simp only[b_ring,Gy]
 walk_at "ev"
 simp only[g4,g1]
 refine⟨a,gr,rfl,hr,by omega,num,fun ms M1 r1 mo k1 hw1 hr1=>?_⟩
 try walk_at "ev"
 refine⟨a,gr,rfl,k1.L hr,by omega,num.cl,?_⟩
 have kp:Kp M1 (M1++ .lst (Xl (M1.length+1) gr.length)::Y5 gr.length (Yv gr gr.length)):=Kp.new _ _
 have hf:Z7 (M1++ .lst (Xl (M1.length+1) gr.length)::Y5 gr.length (Yv gr gr.length)) M1.length=some (((List.range gr.length).map fun i=>M1.length+1+i).map .ref):=by
  rw[Z9,List.map_map]
  rfl
 have hrow:∀k,k<gr.length→Zd (M1++ .lst (Xl (M1.length+1) gr.length)::Y5 gr.length (Yv gr gr.length)) (M1.length+1+k)=some (natD (Yv gr gr.length k)):=by
  intro k hk
  have:=G9 (M:=M1) (c:= .lst (Xl (M1.length+1) gr.length)) (F:=Yv gr gr.length) (N:=[]) hk
  rw[List.append_nil] at this
  exact this
 have hlen2:(M1++ .lst (Xl (M1.length+1) gr.length)::Y5 gr.length (Yv gr gr.length)).length=M1.length+1+gr.length:=by
  rw[List.length_append,List.length_cons,Xr];omega
 generalize M1++ .lst (Xl (M1.length+1) gr.length)::Y5 gr.length (Yv gr gr.length)=M2 at kp hf hrow hlen2 ⊢
 have k2:=k1.trans kp
 try walk_at "ev"
 refine⟨_,rfl,Wd _ _ [],?_⟩
 rw[Xg]
 have kD:Kp M2 (M2++[Cell.dct (hsD [h])]):=Kp.new _ _
 have hD:Zm (M2++[Cell.dct (hsD [h])]) M2.length=some (hsD [h]):=Wd _ _ []
 show _
 have eD:([(Sum.inl (h:Int),D.bl true)]:List (Key×D))=hsD [h]:=rfl
 rw[eD]
 have hlen3:(M2++[Cell.dct (hsD [h])]).length=M2.length+1:=by rw[List.length_append];rfl
 generalize M2++[Cell.dct (hsD [h])]=M3 at kD hD hlen3 ⊢
 have k3:=k2.trans kD
 try walk_at "ev"
 have hrowh:=hrow h hh
 have ehr:(((List.range gr.length).map fun i=>M1.length+1+i).map D.ref)[h]?=some (.ref (M1.length+1+h)):=by
  rw[List.getElem?_map,List.getElem?_map,List.getElem?_range hh];rfl
 refine ix_l (kD.L hf) ehr ?_
 try walk_at "ev"
 refine⟨_,kD.L (Z0 hrowh),?_⟩
 simp only[capD,List.map_cons,List.map_nil,Option.bind_none,Option.bind_some,List.getElem?_cons_zero,List.getElem?_cons_succ,Option.join_some]
 refine Xa (fun i σ M'=>∃d st,σ=[d,some (.ref r1),some (.int h)]∧Kp M3 M'∧Zd M' M3.length=some (natD st)∧st.length≤i∧∀x,x∈st↔x∈(Yv gr gr.length h).take i∧¬GT.Av (wy gr) h x) ⟨none,[],rfl,Kp.new _ _,Za _ _ [],Nat.le_refl _,fun x=>by simp⟩ ?_ ?_ ?_
 ·rintro i σ M' _ ⟨d,st,rfl,k,_⟩
  exact k.L (kD.L (Z0 hrowh))
 ·rintro i dx σ M' C hx ⟨d,st,rfl,k,hw,hl,hm⟩ hC
  have hi:i< (Yv gr gr.length h).length:=by have:=(List.getElem?_eq_some_iff.mp hx).1;rwa[Z6] at this
  have hxi:(Yv gr gr.length h)[i]?=some (Yv gr gr.length h)[i]:=List.getElem?_eq_getElem hi
  generalize (Yv gr gr.length h)[i]=x at hxi
  rw[Zy hxi] at hx
  cases hx
  have hxn:=(Vj.mp (List.mem_of_getElem? hxi)).1
  have hcl:=Wx gr h gr.length
  walk_at "ev"
  simp only[g5]
  refine⟨r1,h,x,gr.length,wy gr,ms,rfl,k.L (kD.L (kp.L (Z0 hw1))),num,mo,hxn,fun b hb=>?_⟩
  try walk_at "ev"
  cases b with
  | true=>
   try walk_at "ev"
   refine⟨_,hw,by rw[Z6];exact Z8 (by omega),?_⟩
   rw[←Y9]
   refine hC _ _ ⟨_,st++[x],rfl,k.set (Nat.le_refl _) _,Yj hw,by rw[List.length_append,List.length_singleton];omega,fun y=>?_⟩
   rw[List.mem_append,hm y,Zg hxi,List.mem_append,List.mem_singleton]
   constructor
   ·rintro(⟨h1,h2⟩ | rfl)
    ·exact⟨.inl h1,h2⟩
    ·exact⟨.inr rfl,hb.mp rfl⟩
   ·rintro⟨h1 | rfl,h2⟩
    ·exact .inl ⟨h1,h2⟩
    ·exact .inr rfl
  | false=>
   try walk_at "ev"
   refine hC _ _ ⟨_,st,rfl,k,hw,by omega,fun y=>?_⟩
   rw[hm y,Zg hxi,List.mem_append,List.mem_singleton]
   constructor
   ·rintro⟨h1,h2⟩
    exact⟨.inl h1,h2⟩
   ·rintro⟨h1 | rfl,h2⟩
    ·exact⟨h1,h2⟩
    ·have:=hb.mpr h2;cases this
 rintro σ M4 ⟨d,st,rfl,k4,hw4,hl4,hm4⟩
 rw[Z6] at hl4 hm4
 rw[List.take_length] at hm4
 have hst:∀k,k∈st↔k<gr.length∧h∈wy gr k∧¬GT.Av (wy gr) h k:=fun k=>by rw[hm4 k,Vj,and_assoc]
 have hcl:=Wx gr h gr.length
 try walk_at "ev"
 simp only[g8]
 have kk:=kD.trans k4
 have hm3:=k4.len
 refine⟨M1.length,M3.length,M2.length,gr.length,h,(List.range gr.length).map fun i=>M1.length+1+i,st,Yv gr gr.length,rfl,hn,hh,by omega,by omega,kk.L hf,by simp,fun k x e=>?_,Z0 hw4,by omega,fun x hx=>((hst x).mp hx).1,k4.D hD,fun ks M5 r5 nd hkl hks kx hD5=>?_⟩
 ·rw[List.getElem?_map,Option.map_eq_some_iff] at e
  obtain⟨y,e1,rfl⟩:=e
  obtain⟨hk,e2⟩:=List.getElem?_eq_some_iff.mp e1
  rw[List.length_range] at hk
  rw[List.getElem_range] at e2
  subst e2
  have:=Wx gr k gr.length
  exact⟨by omega,kk.W (hrow k hk),by omega,fun y hy=>(Vj.mp hy).1⟩
 ·try walk_at "ev"
  refine⟨_,intL ks,hD5,Eh ks,by unfold intL;rw[List.length_map];omega,fun ns pm sm=>?_⟩
  obtain⟨hs,rfl,h1,h2⟩:=Fb nd pm sm
  rw[Ng]
  have m1:=k1.len
  have k5:Kp M M5:=Kx.kp (k3.trans k4) kx (by omega)
  refine q hs _ _ ⟨h1,fun x=>?_⟩ (k5.app _) (Za _ _ []) k5.len
  rw[h2 x,hks x]
  exact Eg hst (fun y hy x=>Vj) hh x
end
noncomputable def lkL(gr:List Nd)(y:Nat):List Nat:=(List.range gr.length).filter fun k=>decide (y∈wy gr k)
theorem Z60{gr:List Nd}{y x:Nat}:x∈lkL gr y↔x<gr.length∧y∈wy gr x:=by
 unfold lkL
 rw[List.mem_filter,List.mem_range,decide_eq_true_eq]
theorem Zr9(gr:List Nd)(y:Nat):(lkL gr y).length≤gr.length:=by
 have:=List.length_filter_le (fun k=>decide (y∈wy gr k)) (List.range gr.length)
 rw[List.length_range] at this
 exact this
def Vz:DSp:=fun ds M Q _=>∃(a o h:Nat) (gr:List Nd) (rs:List Nat),ds=[.ref a,.ref o,.int h]∧Z7 M a=some (gr.map Nd.d)∧gr.length≤31∧GT.Num (wy gr) gr.length∧h<gr.length∧Z7 M o=some (rs.map .ref)∧Gq M rs gr.length (fun k y=>y<gr.length∧¬GT.Av (wy gr) y k)∧
 ∀l M' r,Yk gr h l→Kp M M'→Zd M' r=some (natD l)→M.length≤r→Q (.ref r) M'
section
variable{K:PySem.W.Frag}
theorem Zm3{Γ G}(g16:Γ[16]?=some Yb)(g22:Γ[22]?=some Zo):RR ⟨K,Γ,G⟩ b_Lring Py Vz:=by
 rintro ds M Q Z ⟨a,o,h,gr,rs,rfl,hr,hn,num,hh,ho,tl,q⟩
 simp only[b_Lring,Py]
 walk_at "ev"
 simp only[g22]
 refine⟨Z1 (by decide),a,gr,rfl,Z4 hr,by omega,fun ps M1 r1 hb k1 hw1 hr1=>?_⟩
 have hI:Zd M1 M.length=some (natD [h]):=k1.W (Za M [.int h] [])
 have k0:Kp M M1:=(Kp.new M _).trans k1
 have hps:ps.length≤62:=by have:=hb.2;omega
 try walk_at "ev"
 refine⟨_,Z0 hw1,?_⟩
 try simp only[capD,List.map_cons,List.map_nil,Option.bind_none,Option.bind_some,List.getElem?_cons_zero,List.getElem?_cons_succ,Option.join_some]
 refine Xa (fun i σ M'=>∃d0 d1 st,σ=[d0,d1,some (.int h),some (.ref o)]∧Kp M1 M'∧Zd M' M1.length=some (natD st)∧st.length≤i∧∀x,x∈st↔(x,h)∈ps.take i∧¬GT.Av (wy gr) h x) ⟨none,none,[],rfl,Kp.new _ _,Za _ _ [],Nat.le_refl _,fun x=>by simp⟩ ?_ ?_ ?_
 ·rintro i σ M' _ ⟨d0,d1,st,rfl,k,_⟩
  exact k.L (Z0 hw1)
 ·rintro i dx σ M' C hx ⟨d0,d1,st,rfl,k,hw,hl,hm⟩ hC
  obtain⟨⟨x,y⟩,hp,rfl⟩:=Gg hx
  have hi:i<ps.length:=(List.getElem?_eq_some_iff.mp hp).1
  obtain⟨hx1,hx2,hx3⟩:=(hb.1 x y).mp (List.mem_of_getElem? hp)
  obtain⟨ov,hov⟩:∃ov,rs[x]?=some ov:=⟨_,List.getElem?_eq_getElem (by rw[tl.1];exact hx1)⟩
  obtain⟨L,hL,hLl,hLm⟩:=tl.2 _ ov hov
  have kk:=k0.trans k
  have no:∀P:Prop,((y=h∧¬GT.Av (wy gr) h x)→P)→(¬P)→∀u,u∈st↔(u,h)∈ps.take (i+1)∧¬GT.Av (wy gr) h u:=by
   intro P h1 h2 u
   rw[hm u,Zg hp,List.mem_append,List.mem_singleton,Prod.mk.injEq]
   constructor
   ·rintro⟨z1,z2⟩
    exact⟨.inl z1,z2⟩
   ·rintro⟨z1 | ⟨rfl,rfl⟩,z2⟩
    ·exact⟨z1,z2⟩
    ·exact absurd (h1 ⟨rfl,z2⟩) h2
  walk_at "ev"
  by_cases e:y=h
  ·subst e
   try rw[if_pos (by simp)]
   try walk_at "ev"
   refine ix_l (kk.L ho) (by rw[List.getElem?_map,hov];rfl) ?_
   refine Vp (kk.L hL) ?_
   by_cases hyL:y∈L
   ·rw[decide_eq_true hyL]
    try walk_at "ev"
    refine⟨_,hw,by rw[Z6];exact Z8 (by omega),?_⟩
    rw[←Y9]
    refine hC _ _ ⟨_,_,st++[x],rfl,k.set (Nat.le_refl _) _,Yj hw,by rw[List.length_append,List.length_singleton];omega,fun u=>?_⟩
    rw[List.mem_append,hm u,Zg hp,List.mem_append,List.mem_singleton,List.mem_singleton,Prod.mk.injEq]
    constructor
    ·rintro(⟨z1,z2⟩ | rfl)
     ·exact⟨.inl z1,z2⟩
     ·exact⟨.inr ⟨rfl,rfl⟩,((hLm y).mp hyL).2⟩
    ·rintro⟨z1 | ⟨rfl,_⟩,z2⟩
     ·exact .inl ⟨z1,z2⟩
     ·exact .inr rfl
   ·rw[decide_eq_false hyL]
    try walk_at "ev"
    exact hC _ _ ⟨_,_,st,rfl,k,hw,by omega,no (y∈L) (fun z=>(hLm y).mpr ⟨hh,z.2⟩) hyL⟩
  ·rw[if_neg (by omega),if_neg (by omega)]
   exact hC _ _ ⟨_,_,st,rfl,k,hw,by omega,no False (fun z=>e z.1) id⟩
 rintro σ M2 ⟨d0,d1,st,rfl,k2,hw2,hl2,hm2⟩
 rw[List.length_map] at hl2 hm2
 rw[List.take_length] at hm2
 have hst:∀k,k∈st↔k<gr.length∧h∈wy gr k∧¬GT.Av (wy gr) h k:=fun k=>by
  rw[hm2 k,hb.1 k h]
  constructor
  ·rintro⟨⟨z1,z2,_⟩,z4⟩
   exact⟨z1,z2,z4⟩
  ·rintro⟨z1,z2,z3⟩
   exact⟨⟨z1,z2,GT.Q1 num z1 z3⟩,z3⟩
 have hI2:=k2.W hI
 have kM:=k0.trans k2
 have hIl:=X8 hI
 try walk_at "ev"
 refine⟨fun m σ M'=>∃(ks T:List Nat) (r4:Nat) (d5:Option D),m=63 * (gr.length - ks.length)+T.length∧σ=[some (.ref a),some (.ref o),some (.int h),some (.ref M.length),some (.ref r4),d5]∧Kp M M'∧Zd M' M.length=some (natD ks)∧M.length<r4∧Zd M' r4=some (natD T)∧Cw (lkL gr) st h ks T∧(∀y∈ks,y<gr.length)∧(∀y∈T,y<gr.length)∧T.length≤100+62 * ks.length,
  ⟨_,[h],st,M1.length,none,rfl,rfl,kM,hI2,hIl,hw2,Cw.begin (lkL gr) st h,fun y hy=>by rw[List.mem_singleton.mp hy];exact hh,fun y hy=>((hst y).mp hy).1,by omega⟩,?_⟩
 rintro m σ M3 ⟨ks,T,r4,d5,rfl,rfl,k3,hK,hr4,hT,cw,hks,hTl,hTs⟩
 have hkl:=GT.Xo cw.nd hks
 walk_at "ev"
 refine⟨Z1 (by decide),?_⟩
 refine Ve (l:=T) (Z4 (Z0 hT)) (Z9 _ _ []) ?_
 have k3:=k3.app [Cell.lst []]
 have hK:=Yh (N:=[Cell.lst []]) hK
 have hT:=Yh (N:=[Cell.lst []]) hT
 generalize M3++[Cell.lst []]=M4 at k3 hK hT
 obtain hnil | ⟨T0,x,hcat⟩:T=[]∨∃T0 x,T=T0++[x]:=by
  rcases List.eq_nil_or_concat T with h | ⟨a,b,h⟩
  ·exact .inl h
  ·exact .inr ⟨a,b,by rw[h,List.concat_eq_append]⟩
 ·subst hnil
  rw[if_neg (by decide)]
  simp only[Np]
  walk_at "ev"
  refine⟨intL ks,by rw[Ng];exact Z0 hK,by unfold intL;rw[List.length_map];omega,fun ns pm sm=>?_⟩
  obtain⟨hs,rfl,h1,h2⟩:=Fb cw.nd pm sm
  rw[Ng]
  refine q hs _ _ ⟨h1,fun x=>?_⟩ (k3.app _) (Za _ _ []) k3.len
  rw[h2 x,cw.done x]
  exact Eg hst (fun y hy x=>Z60) hh x
 ·subst hcat
  rw[if_pos (by cases T0<;>rfl)]
  have hx:=hTl x (by simp)
  simp only[G5]
  walk_at "ev"
  rw[Y9] at hT
  refine⟨Zi (Z0 hT),_,.int x,hT,by simp,?_⟩
  rw[List.dropLast_concat]
  have hK:=Yr (c:= .lst (natD T0)) hK (show r4≠M.length by omega)
  have hT:=Yj (ys:=natD T0) hT
  have k3:=k3.set (show M.length≤r4 by omega) (.lst (natD T0))
  generalize M4.set r4 (.lst (natD T0))=M5 at k3 hK hT
  rw[List.length_append,List.length_singleton] at hTs
  try walk_at "ev"
  refine Vp (Z0 hK) ?_
  by_cases hm:x∈ks
  ·rw[decide_eq_true hm]
   try walk_at "ev"
   refine⟨_,?_,ks,T0,r4,_,rfl,rfl,k3,hK,hr4,hT,cw.old hm,hks,fun y hy=>hTl y (List.mem_append_left _ hy),by omega⟩
   simp only[List.length_append,List.length_singleton]
   omega
  ·rw[decide_eq_false hm]
   try walk_at "ev"
   have hk1:(ks++[x]).length≤gr.length:=GT.Xo (cw.new hm).nd fun y hy=>by
    rcases List.mem_append.mp hy with z | z
    ·exact hks y z
    ·rw[List.mem_singleton.mp z];exact hx
   rw[List.length_append,List.length_singleton] at hk1
   refine⟨Zi (Z0 hK),_,hK,by rw[Z6];exact Z8 (by omega),?_⟩
   rw[←Y9]
   have hT:=Yr (c:= .lst (natD (ks++[x]))) hT (show M.length≠r4 by omega)
   have hK:=Yj (ys:=natD (ks++[x])) hK
   have k3:=k3.set (Nat.le_refl M.length) (.lst (natD (ks++[x])))
   generalize M5.set M.length (.lst (natD (ks++[x])))=M6 at k3 hK hT
   try walk_at "ev"
   refine Y8 (k3.L hr) ⟨by omega,by rw[List.length_map];omega,?_⟩
   rw[Int.toNat_natCast,List.length_map]
   simp only[capD,List.map_cons,List.map_nil,Option.bind_none,Option.bind_some,List.getElem?_cons_zero,List.getElem?_cons_succ,Option.join_some]
   refine Xa (fun i σ M'=>∃d0,σ=[d0,some (.int x),some (.ref a)]∧Kp M6 M'∧Zd M' M6.length=some (natD ((List.range i).filter fun k=>decide (x∈wy gr k)))) ⟨none,rfl,Kp.new _ _,Za _ _ []⟩ (fun _ _ _ _ _=>trivial) ?_ ?_
   ·rintro i dx σ M' C hx' ⟨d0,rfl,k',hw'⟩ hC
    have hi:i<gr.length:=by have:=(List.getElem?_eq_some_iff.mp hx').1;rwa[Y2] at this
    rw[V6 (by omega)] at hx'
    cases hx'
    obtain⟨nd,hd⟩:∃nd,gr[i]?=some nd:=⟨_,List.getElem?_eq_getElem hi⟩
    simp only[Int.zero_add]
    walk_at "ev"
    refine ix_l (k'.L (k3.L hr)) (Qk hd) ?_
    try walk_at "ev"
    simp only[g16]
    refine⟨nd,rfl,?_⟩
    refine Vp (Z9 _ _ []) ?_
    have ew:wy gr i=nd.gs:=O9 hd
    have hw2:=Yh (N:=[Cell.lst (natD nd.gs)]) hw'
    have lf:=List.length_filter_le (fun k=>decide (x∈wy gr k)) (List.range i)
    rw[List.length_range] at lf
    by_cases hxg:x∈nd.gs
    ·rw[decide_eq_true hxg]
     try walk_at "ev"
     refine⟨_,hw2,by rw[Z6];exact Z8 (by omega),?_⟩
     rw[←Y9]
     refine hC _ _ ⟨_,rfl,(k'.app _).set (Nat.le_refl _) _,?_⟩
     rw[List.range_succ,List.filter_append]
     have:([i].filter fun k=>decide (x∈wy gr k))=[i]:=by simp[ew,hxg]
     rw[this]
     exact Yj hw2
    ·rw[decide_eq_false hxg]
     try walk_at "ev"
     refine hC _ _ ⟨_,rfl,k'.app _,?_⟩
     rw[List.range_succ,List.filter_append]
     have:([i].filter fun k=>decide (x∈wy gr k))=[]:=by simp[ew,hxg]
     rw[this,List.append_nil]
     exact hw2
   ·rintro σ M7 ⟨d0,rfl,k7,hw7⟩
    rw[Y2] at hw7
    try walk_at "ev"
    have hl7:=Zr9 gr x
    have e7:((List.range gr.length).filter fun k=>decide (x∈wy gr k))=lkL gr x:=rfl
    rw[e7] at hw7
    refine⟨_,_,k7.W hT,hw7,by rw[Z6,Z6];exact Z1 (by omega),?_⟩
    have ea:natD T0++natD (lkL gr x)=natD (T0++lkL gr x):=by unfold natD;rw[List.map_append]
    rw[ea]
    have h6:=X8 hK
    have h7:=k7.len
    refine⟨_,?_,ks++[x],T0++lkL gr x,M7.length,_,rfl,rfl,(k3.trans k7).app _,Yh (k7.W hK),by omega,Za _ _ [],cw.new hm,fun y hy=>?_,fun y hy=>?_,?_⟩
    ·simp only[List.length_append,List.length_singleton]
     omega
    ·rcases List.mem_append.mp hy with z | z
     ·exact hks y z
     ·rw[List.mem_singleton.mp z];exact hx
    ·rcases List.mem_append.mp hy with z | z
     ·exact hTl y (List.mem_append_left _ z)
     ·exact(Z60.mp z).1
    ·simp only[List.length_append,List.length_singleton]
     omega
end
theorem Zh6{gr:List Nd}{h1 h2:Nat}{a b:List Nat}(N:GT.Num (wy gr) gr.length)(k1:h1<gr.length)(k2:h2<gr.length)(ne:h1≠h2)(r1:Yk gr h1 a)(r2:Yk gr h2 b):(a.filter fun k=>decide (k∈b))=[]∨(a.filter fun k=>decide (k∈b)).length=min a.length b.length:=by
 cases e:a.filter fun k=>decide (k∈b) with
 | nil=>exact .inl rfl
 | cons x r=>
  rw[←e]
  refine .inr ?_
  have hx:x∈a.filter fun k=>decide (k∈b):=by rw[e];exact List.mem_cons_self
  rw[List.mem_filter,decide_eq_true_eq] at hx
  have fl:=List.length_filter_le (fun k=>decide (k∈b)) a
  have fb:(a.filter fun k=>decide (k∈b)).length≤b.length:=Qu (r1.nd.filter _) fun y hy=>by rw[List.mem_filter,decide_eq_true_eq] at hy;exact hy.2
  rcases Rg.apart N k1 k2 ne ((r1.2 x).mp hx.1) ((r2.2 x).mp hx.2) with s | s
  ·have:=Qu (b:=a.filter fun k=>decide (k∈b)) r2.nd fun y hy=>by
    rw[List.mem_filter,decide_eq_true_eq]
    exact⟨(r1.2 y).mpr (s y ((r2.2 y).mp hy)),hy⟩
   omega
  ·have:=Qu (b:=a.filter fun k=>decide (k∈b)) r1.nd fun y hy=>by
    rw[List.mem_filter,decide_eq_true_eq]
    exact⟨hy,(r2.2 y).mpr (s y ((r1.2 y).mp hy))⟩
   omega
def Tq:DSp:=fun ds M Q _=>∃(x y h1 h2:Nat) (gr:List Nd) (l1 l2:List Nat),ds=[.ref x,.ref y]∧Z7 M x=some (natD l1)∧Z7 M y=some (natD l2)∧Yk gr h1 l1∧Yk gr h2 l2∧GT.Num (wy gr) gr.length∧h1<gr.length∧h2<gr.length∧h1≠h2∧gr.length≤31∧∀M',Kp M M'→Q (.bl true) M'
def V0(gr:List Nd)(hs:List Nat)(h:Nat)(d:D):Prop:=(d= .non∧∀o∈hs,o≠h→¬Rg (wy gr) gr.length o h)∨
 ∃m:Nat,d= .int m∧m∈hs∧m≠h∧Rg (wy gr) gr.length m h∧∀o∈hs,o≠h→Rg (wy gr) gr.length o h→∀lm lo,Yk gr m lm→Yk gr o lo→lm.length≤lo.length
theorem V0.uniq{gr:List Nd}{hs ks:List Nat}{h:Nat}{d e:D}(N:GT.Num (wy gr) gr.length)(hlt:∀o∈hs,o<gr.length∧∃l,Yk gr o l)(same:∀o,o∈hs↔o∈ks)(i1:V0 gr hs h d)(i2:V0 gr ks h e):d=e:=by
 rcases i1 with⟨rfl,a⟩ | ⟨m,rfl,m1,m2,m3,m4⟩<;>rcases i2 with⟨rfl,b⟩ | ⟨u,rfl,u1,u2,u3,u4⟩
 ·rfl
 ·exact absurd u3 (a u ((same u).mpr u1) u2)
 ·exact absurd m3 (b m ((same m).mp m1) m2)
 ·obtain⟨km,lm,rm⟩:=hlt m m1
  obtain⟨ku,lu,ru⟩:=hlt u ((same u).mpr u1)
  have l1:=m4 u ((same u).mpr u1) u2 u3 lm lu rm ru
  have l2:=u4 m ((same m).mp m1) m2 m3 lu lm ru rm
  have:=Yk.unlike N km ku rm ru ((rm.2 h).mpr m3) ((ru.2 h).mpr u3) (by omega)
  rw[this]
section
variable{K:PySem.W.Frag}
theorem Ze1{Γ G}:RR ⟨K,Γ,G⟩ b_Lapart R8 Tq:=by
 rintro ds M Q Z ⟨x,y,h1,h2,gr,l1,l2,rfl,hx,hy,r1,r2,num,k1,k2,ne,hn,q⟩
 have n1:=r1.len k1
 have n2:=r2.len k2
 simp only[b_Lapart,R8]
 walk_at "ev"
 refine⟨_,hx,?_⟩
 simp only[capD,List.map_cons,List.map_nil,Option.bind_none,Option.bind_some,List.getElem?_cons_zero,List.getElem?_cons_succ,Option.join_some]
 refine Xa (fun i σ M'=>∃d0,σ=[d0,some (.ref y)]∧Kp M M'∧Zd M' M.length=some (natD ((l1.take i).filter fun k=>decide (k∈l2)))) ⟨none,rfl,Kp.new _ _,Za _ _ []⟩ ?_ ?_ ?_
 ·rintro i σ M' _ ⟨d0,rfl,k,_⟩
  exact k.L hx
 ·rintro i dx σ M' C hd ⟨d0,rfl,k,hw⟩ hC
  have hi:i<l1.length:=by have:=(List.getElem?_eq_some_iff.mp hd).1;rwa[Z6] at this
  have hzi:l1[i]?=some l1[i]:=List.getElem?_eq_getElem hi
  generalize l1[i]=z at hzi
  rw[Zy hzi] at hd
  cases hd
  have lf:=List.length_filter_le (fun k=>decide (k∈l2)) (l1.take i)
  rw[List.length_take] at lf
  walk_at "ev"
  refine Vp (k.L hy) ?_
  by_cases hz:z∈l2
  ·rw[decide_eq_true hz]
   try walk_at "ev"
   refine⟨_,hw,by rw[Z6];exact Z8 (by omega),?_⟩
   rw[←Y9]
   refine hC _ _ ⟨_,rfl,k.set (Nat.le_refl _) _,?_⟩
   rw[Zg hzi,List.filter_append]
   have:([z].filter fun k=>decide (k∈l2))=[z]:=by simp[hz]
   rw[this]
   exact Yj hw
  ·rw[decide_eq_false hz]
   try walk_at "ev"
   refine hC _ _ ⟨_,rfl,k,?_⟩
   rw[Zg hzi,List.filter_append]
   have:([z].filter fun k=>decide (k∈l2))=[]:=by simp[hz]
   rw[this,List.append_nil]
   exact hw
 ·rintro σ M' ⟨d0,rfl,k,hw⟩
  rw[Z6,List.take_length] at hw
  try walk_at "ev"
  refine⟨Z1 (by decide),?_⟩
  refine Ve (Z4 (Z0 hw)) (Z9 _ _ []) ?_
  rcases Zh6 num k1 k2 ne r1 r2 with e | e
  ·rw[e]
   try walk_at "ev"
   exact q _ (k.app _)
  ·cases e2:(l1.filter fun k=>decide (k∈l2)).isEmpty with
   | true=>
    try walk_at "ev"
    exact q _ (k.app _)
   | false=>
    try walk_at "ev"
    refine Y8 (Z4 (Z0 hw)) (Y8 (Z4 (k.L hx)) (Y8 (Z4 (k.L hy)) ?_))
    rw[Z6,Z6,Z6,e]
    try walk_at "ev"
    have:decide (((min l1.length l2.length:Nat):Int)=if (l2.length:Int)< (l1.length:Int) then(l2.length:Int) else(l1.length:Int))=true:=by
     rw[decide_eq_true_eq]
     split<;>omega
    rw[this]
    exact q _ (k.app _)
end
noncomputable def rgD(hs:List (Nat×Nat)):List (Key×D):=hs.map fun p=>(Sum.inl (p.1:Int),D.ref p.2)
noncomputable def hds(hs:List (Nat×Nat)):List Nat:=hs.map (·.1)
theorem W4(hs:List (Nat×Nat)):Om (rgD hs)=natD (hds hs):=by unfold Om rgD natD hds;rw[List.map_map,List.map_map];rfl
theorem Rz{hs:List (Nat×Nat)}{p:Nat×Nat}(nd:(hds hs).Nodup)(hp:p∈hs):valD (rgD hs) (.inl (p.1:Int))=some (.ref p.2):=by
 unfold valD
 induction hs with
 | nil=>exact(List.not_mem_nil hp).elim
 | cons u r ih=>
  unfold hds at nd
  rw[List.map_cons,List.nodup_cons] at nd
  unfold rgD at ih ⊢
  rw[List.map_cons,List.find?_cons]
  rcases List.mem_cons.mp hp with rfl | hp
  ·simp
  ·have ne:¬(Sum.inl (u.1:Int):Key)=Sum.inl (p.1:Int):=fun z=>nd.1 (List.mem_map.mpr ⟨p,hp,by have:=Sum.inl.inj z;omega⟩)
   rw[show decide ((Sum.inl (u.1:Int):Key)=Sum.inl (p.1:Int))=false from decide_eq_false ne]
   simp only[]
   exact ih nd.2 hp
def Tc(M:Z2)(gr:List Nd)(hs:List (Nat×Nat)):Prop:=(hds hs).Nodup∧hs.length≤62∧∀p∈hs,p.1<gr.length∧∃l,Zd M p.2=some (natD l)∧Yk gr p.1 l
theorem Tc.keep{M M':Z2}{gr:List Nd}{hs:List (Nat×Nat)}(h:Tc M gr hs)(k:Kp M M'):Tc M' gr hs:=
 ⟨h.1,h.2.1,fun p hp=>by obtain⟨h1,l,h2,h3⟩:=h.2.2 p hp;exact⟨h1,l,k.W h2,h3⟩⟩
theorem Kp.get{M M':Z2}{i:Nat}{c:Cell}(k:Kp M M')(e:M[i]?=some c):M'[i]?=some c:=by
 obtain⟨L,rfl⟩:=k
 rw[List.getElem?_append_left (List.getElem?_eq_some_iff.mp e).1];exact e
theorem Y66{M:Z2}{n:Nat}{kvs:List (Key×D)}(h:M[n]?=some (.fdc kvs)):Pu M n=some kvs:=by unfold Pu;rw[h]
def Bo:DSp:=fun ds M Q _=>∃(r h:Nat) (gr:List Nd) (hs:List (Nat×Nat)),ds=[.ref r,.int h]∧M[r]?=some (.fdc (rgD hs))∧Tc M gr hs∧gr.length≤31∧∀d M',V0 gr (hds hs) h d→Kp M M'→Q d M'
noncomputable def Zn8(M:Z2)(hs:List (Nat×Nat))(x:Int):Nat:=match valD (rgD hs) (.inl x) with
 | some (.ref l)=>((Z7 M l).getD []).length
 | _=>0
section
variable{K:PySem.W.Frag}
theorem Y86{Γ G}:∀ds M Q Z,Bo ds M Q Z→tss ⟨K,Γ,G⟩ noX (.cons Vt (.cons T3 .nil)) {nx:=fun σ M=>minW σ M Q,rt:=Q} (start0 inN ds) M:=by
 rintro ds M Q Z ⟨r,h,gr,hs,rfl,hr,ok,hn,q⟩
 obtain⟨nd,hl,hall⟩:=ok
 simp only[Vt,T3,inN]
 walk_at "ev"
 refine⟨_,hr,?_⟩
 rw[W4]
 simp only[capD,List.map_cons,List.map_nil,Option.bind_none,Option.bind_some,List.getElem?_cons_zero,List.getElem?_cons_succ,Option.join_some]
 refine Xa (fun i σ M'=>∃d0 ar,σ=[d0,some (.int h),some (.ref r)]∧Kp M M'∧Zd M' M.length=some (natD ar)∧ar.length≤i∧∀x,x∈ar↔x∈(hds hs).take i∧x≠h∧Rg (wy gr) gr.length x h) ⟨none,[],rfl,Kp.new _ _,Za _ _ [],Nat.le_refl _,fun x=>by simp⟩ ?_ ?_ ?_
 ·rintro i σ M' _ ⟨d0,ar,rfl,k,_⟩
  exact⟨_,k.get hr,(W4 hs).symm⟩
 ·rintro i dx σ M' C hx ⟨d0,ar,rfl,k,hw,hal,hm⟩ hC
  have hi:i< (hds hs).length:=by have:=(List.getElem?_eq_some_iff.mp hx).1;rwa[Z6] at this
  have hhl:(hds hs).length=hs.length:=by unfold hds;rw[List.length_map]
  have hpi:hs[i]?=some (hs[i]'(by omega)):=List.getElem?_eq_getElem (by omega)
  generalize hs[i]'(by omega)=p at hpi
  have hxi:(hds hs)[i]?=some p.1:=by unfold hds;rw[List.getElem?_map,hpi];rfl
  rw[Zy hxi] at hx
  cases hx
  have hp:=List.mem_of_getElem? hpi
  obtain⟨p1,l,p2,p3⟩:=hall p hp
  have skip:(p.1≠h→¬Rg (wy gr) gr.length p.1 h)→∀x,x∈ar↔x∈(hds hs).take (i+1)∧x≠h∧Rg (wy gr) gr.length x h:=by
   intro no x
   rw[hm x,Zg hxi,List.mem_append,List.mem_singleton]
   constructor
   ·rintro⟨z1,z2⟩
    exact⟨.inl z1,z2⟩
   ·rintro⟨z1 | rfl,z2,z3⟩
    ·exact⟨z1,z2,z3⟩
    ·exact absurd z3 (no z2)
  walk_at "ev"
  by_cases e:p.1=h
  ·rw[if_neg (by simp[e]),if_neg (by simp[e])]
   exact hC _ _ ⟨_,ar,rfl,k,hw,by omega,skip fun z=>absurd e z⟩
  ·rw[if_pos (by omega)]
   refine ix_f (y:= .inl (p.1:Int)) (k.get hr) rfl (Rz nd hp) ?_
   refine Vp (k.L (Z0 p2)) ?_
   by_cases hh:h∈l
   ·rw[decide_eq_true hh]
    try walk_at "ev"
    refine⟨_,hw,by rw[Z6];exact Z8 (by omega),?_⟩
    rw[←Y9]
    refine hC _ _ ⟨_,ar++[p.1],rfl,k.set (Nat.le_refl _) _,Yj hw,by rw[List.length_append,List.length_singleton];omega,fun x=>?_⟩
    rw[List.mem_append,hm x,Zg hxi,List.mem_append,List.mem_singleton]
    constructor
    ·rintro(⟨z1,z2⟩ | rfl)
     ·exact⟨.inl z1,z2⟩
     ·exact⟨.inr rfl,e,(p3.2 h).mp hh⟩
    ·rintro⟨z1 | rfl,z2⟩
     ·exact .inl ⟨z1,z2⟩
     ·exact .inr rfl
   ·rw[decide_eq_false hh]
    try walk_at "ev"
    exact hC _ _ ⟨_,ar,rfl,k,hw,by omega,skip fun _ z=>hh ((p3.2 h).mpr z)⟩
 ·rintro σ M' ⟨d0,ar,rfl,k,hw,hal,hm⟩
  rw[Z6] at hal hm
  rw[List.take_length] at hm
  have hhl:(hds hs).length=hs.length:=by unfold hds;rw[List.length_map]
  try walk_at "ev"
  refine⟨Z1 (by decide),?_⟩
  refine Ve (l:=ar) (Z4 (Z0 hw)) (Z9 _ _ []) ?_
  have k2:=k.app [Cell.lst []]
  have hw2:=Yh (N:=[Cell.lst []]) hw
  generalize M'++[Cell.lst []]=M2 at k2 hw2
  cases har:ar with
  | nil=>
   subst har
   try walk_at "ev"
   refine q _ _ (.inl ⟨rfl,fun o ho ne rg=>?_⟩) k2
   exact(List.not_mem_nil ((hm o).mpr ⟨ho,ne,rg⟩)).elim
  | cons u v=>
   rw[←har]
   have hpos:0<ar.length:=by rw[har];simp
   have hem:(u::v).isEmpty=false:=rfl
   rw[har,hem]
   try walk_at "ev"
   have len_of:∀x∈ar,∃p∈hs,p.1=x∧∃l,Z7 M2 p.2=some (natD l)∧Yk gr x l∧Zn8 M2 hs (x:Int)=l.length:=by
    intro x hx
    obtain⟨p,hp,rfl⟩:=List.mem_map.mp ((hm x).mp hx).1
    obtain⟨_,l,p2,p3⟩:=hall p hp
    refine⟨p,hp,rfl,l,k2.L (Z0 p2),p3,?_⟩
    unfold Zn8
    rw[Rz nd hp]
    simp only[]
    rw[k2.L (Z0 p2)]
    exact Z6 l
   refine⟨M.length,r,intL ar,rgD hs,Zn8 M2 hs,rfl,rfl,by rw[Ng];exact Z0 hw2,by unfold intL;rw[List.length_map];exact hpos,Y66 (k2.get hr),fun x hx=>?_,fun m hm' hmin=>?_⟩
   ·obtain⟨y,hy,rfl⟩:=List.mem_map.mp hx
    obtain⟨p,hp,rfl,l,l1,_,l3⟩:=len_of y hy
    exact⟨p.2,_,Rz nd hp,l1,by rw[l3];exact Z6 l⟩
   ·obtain⟨y,hy,rfl⟩:=List.mem_map.mp hm'
    obtain⟨m1,m2,m3⟩:=(hm y).mp hy
    refine q _ _ (.inr ⟨y,rfl,m1,m2,m3,fun o ho ne rg lm lo rm ro=>?_⟩) k2
    have ho2:o∈ar:=(hm o).mpr ⟨ho,ne,rg⟩
    obtain⟨_,_,_,l1,_,a2,a3⟩:=len_of y hy
    obtain⟨_,_,_,l2,_,b2,b3⟩:=len_of o ho2
    have:=hmin (o:Int) (List.mem_map.mpr ⟨o,ho2,rfl⟩)
    rw[a3,b3] at this
    rw[rm.uniq a2,ro.uniq b2]
    exact this
end
noncomputable def nsD(tl:List (Nat×D)):List (Key×D):=tl.map fun p=>(Sum.inl (p.1:Int),p.2)
theorem Zr8{tl:List (Nat×D)}{h:Nat}{d:D}(no:h∉tl.map (·.1)):putD (nsD tl) (.inl (h:Int)) d=nsD (tl++[(h,d)]):=by
 unfold putD
 rw[if_neg]
 ·unfold nsD;rw[List.map_append];rfl
 ·intro z
  obtain⟨kv,h1,h2⟩:=List.any_eq_true.mp z
  obtain⟨p,hp,rfl⟩:=List.mem_map.mp h1
  rw[decide_eq_true_eq] at h2
  have:p.1=h:=by have:=Sum.inl.inj h2;omega
  exact no (List.mem_map.mpr ⟨p,hp,this⟩)
noncomputable def rgT(hs:List (Nat×Nat)):List D:=hs.map fun p=>D.tup [.int (p.1:Nat),.ref p.2]
theorem Z86{hs:List (Nat×Nat)}{i:Nat}{d:D}(h:(rgT hs)[i]?=some d):∃p,hs[i]?=some p∧d= .tup [.int (p.1:Nat),.ref p.2]:=by
 unfold rgT at h
 rw[List.getElem?_map,Option.map_eq_some_iff] at h
 obtain⟨p,h1,rfl⟩:=h
 exact⟨p,h1,rfl⟩
theorem Y58(T:List (Nat×Nat)):trD T=(T.map fun p=>((p.1:Int),(p.2:Int))).map pD:=by unfold trD;rw[List.map_map];rfl
def Yt:DSp:=fun ds M Q _=>∃(a:Nat) (gr:List Nd),ds=[.ref a]∧Z7 M a=some (gr.map Nd.d)∧gr.length≤31∧GT.Num (wy gr) gr.length∧
 ∀(tl:List (Nat×D)) hs M' r,Q8 gr hs→hs.length<64→tl.map (·.1)=hs→(∀p∈tl,V0 gr hs p.1 p.2)→Kp M M'→Zm M' r=some (nsD tl)→M.length≤r→Q (.ref r) M'
structure Oth(gr:List Nd)(hs:List (Nat×Nat))(h j:Nat)(T:List (Nat×Nat)):Prop where
 s:∀q∈T,q.2∈hds hs∧q.2≠h∧Rg (wy gr) gr.length q.2 h∧∀l,Yk gr q.2 l→l.length=q.1
 c:∀p∈hs.take j,p.1≠h→Rg (wy gr) gr.length p.1 h→∃n,(n,p.1)∈T
 l:T.length≤j
section
variable{K:PySem.W.Frag}
theorem Zw6{Γ G}(g7:Γ[7]?=some Zu)(g9:Γ[9]?=some Yl):RR ⟨K,Γ,G⟩ b_nest Fw Yt:=by
 rintro ds M Q Z ⟨a,gr,rfl,hr,hn,num,q⟩
 simp only[b_nest,Fw]
 walk_at "ev"
 simp only[g7]
 refine⟨a,gr,rfl,hr,hn,num,fun hd M1 r1 hof h64 k1 hw1 hr1=>?_⟩
 have hlt:=hof.lt num
 have hnd:hd.Nodup:=hof.1.imp fun z=>Nat.ne_of_lt z
 try walk_at "ev"
 refine⟨_,Z0 hw1,?_⟩
 try simp only[capD,List.map_cons,List.map_nil,Option.bind_none,Option.bind_some,List.getElem?_cons_zero,List.getElem?_cons_succ,Option.join_some]
 refine Xa (fun i σ M'=>∃d0 hs,σ=[d0,some (.ref a)]∧Kp M1 M'∧Zd M' M1.length=some (rgT hs)∧hds hs=hd.take i∧∀p∈hs,M1.length<p.2∧∃l,Zd M' p.2=some (natD l)∧Yk gr p.1 l) ⟨none,[],rfl,Kp.new _ _,Za _ _ [],rfl,fun p hp=>(List.not_mem_nil hp).elim⟩ ?_ ?_ ?_
 ·rintro i σ M' _ ⟨d0,hs,rfl,k,_⟩
  exact k.L (Z0 hw1)
 ·rintro i dx σ M' C hx ⟨d0,hs,rfl,k,hw,he,hall⟩ hC
  have hi:i<hd.length:=by have:=(List.getElem?_eq_some_iff.mp hx).1;rwa[Z6] at this
  have hxi:hd[i]?=some hd[i]:=List.getElem?_eq_getElem hi
  generalize hd[i]=x at hxi
  rw[Zy hxi] at hx
  cases hx
  have hlen:hs.length≤64:=by
   have:=congrArg List.length he
   unfold hds at this
   rw[List.length_map,List.length_take] at this
   omega
  walk_at "ev"
  simp only[g9]
  refine⟨a,x,gr,rfl,k.L (k1.L hr),hn,num,hlt x (List.mem_of_getElem? hxi),fun l M2 r2 hl k2 hw2 hr2=>?_⟩
  have hml:=X8 hw
  refine⟨Z1 (by decide),_,k2.W hw,by unfold rgT;rw[List.length_map];exact Z8 (by omega),?_⟩
  refine hC _ _ ⟨_,hs++[(x,r2)],rfl,(k.trans k2).set (Nat.le_refl _) _,?_,?_,fun p hp=>?_⟩
  ·have:rgT (hs++[(x,r2)])=rgT hs++[.tup [.int (x:Nat),.ref r2]]:=by unfold rgT;rw[List.map_append];rfl
   rw[this]
   exact Yj (k2.W hw)
  ·unfold hds at he ⊢
   rw[List.map_append,he,Zg hxi]
   rfl
  ·rcases List.mem_append.mp hp with z | z
   ·obtain⟨z1,l',z2,z3⟩:=hall p z
    exact⟨z1,l',Yr (k2.W z2) (by omega),z3⟩
   ·rw[List.mem_singleton] at z
    subst z
    exact⟨by omega,l,Yr hw2 (show M1.length≠r2 by omega),hl⟩
 rintro σ M2 ⟨d0,hs,rfl,k2,hw2,he,hall⟩
 rw[Z6,List.take_length] at he
 have hlen:hs.length=hd.length:=by have:=congrArg List.length he;unfold hds at this;rwa[List.length_map] at this
 have hml:=X8 hw2
 have hall3:∀p∈hs,p.2<M2.length:=fun p hp=>by obtain⟨_,l,z,_⟩:=hall p hp;exact X8 z
 try walk_at "ev"
 refine⟨_,Z4 (Z0 hw2),?_⟩
 refine X3 (fun i σ M'=>∃d3 d4 d5 tl,σ=[some (.ref a),some (.ref M1.length),some (.ref M2.length),d3,d4,d5]∧Kx M2.length (M2++[.dct []]) M'∧Zm M' M2.length=some (nsD tl)∧tl.map (·.1)=hd.take i∧∀p∈tl,V0 gr hd p.1 p.2) ⟨none,none,none,[],rfl,Kx.refl _ _,Wd _ _ [],rfl,fun p hp=>(List.not_mem_nil hp).elim⟩ ?_ ?_ ?_
 ·rintro i σ M' _ ⟨d3,d4,d5,tl,rfl,kx,_⟩
  exact kx.L (Z4 (Z0 hw2)) (by omega)
 ·rintro i dx σ M' C hx ⟨d3,d4,d5,tl,rfl,kx,hD,htl,hin⟩ hC
  obtain⟨⟨x,xr⟩,hp,rfl⟩:=Z86 hx
  have hi:i<hs.length:=(List.getElem?_eq_some_iff.mp hp).1
  have hxi:hd[i]?=some x:=by rw[←he];unfold hds;rw[List.getElem?_map,hp];rfl
  have hR:Z7 M' M1.length=some (rgT hs):=kx.L (Z4 (Z0 hw2)) (by omega)
  have hrows:∀p∈hs,∃l,Z7 M' p.2=some (natD l)∧Yk gr p.1 l:=fun p hp=>by
   obtain⟨_,l,z1,z2⟩:=hall p hp
   have:=hall3 p hp
   exact⟨l,kx.L (Z4 (Z0 z1)) (by omega),z2⟩
  simp only[Fj]
  walk_at "ev"
  refine⟨_,hR,?_⟩
  try simp only[capD,List.map_cons,List.map_nil,Option.bind_none,Option.bind_some,List.getElem?_cons_zero,List.getElem?_cons_succ,Option.join_some]
  refine Xa (fun j σ M3=>∃d0 d1 T,σ=[d0,d1,some (.int x)]∧Kp M' M3∧Zd M3 M'.length=some (trD T)∧Oth gr hs x j T) ⟨none,none,[],rfl,Kp.new _ _,Za _ _ [],⟨fun q hq=>(List.not_mem_nil hq).elim,fun p hp=>by simp at hp,Nat.le_refl _⟩⟩ ?_ ?_ ?_
  ·rintro j σ M3 _ ⟨d0,d1,T,rfl,k,_⟩
   exact k.L hR
  ·rintro j dy σ M3 C2 hy ⟨d0,d1,T,rfl,k,hw,ot⟩ hC2
   obtain⟨p,hpj,rfl⟩:=Z86 hy
   have hj:j<hs.length:=(List.getElem?_eq_some_iff.mp hpj).1
   have hpm:=List.mem_of_getElem? hpj
   obtain⟨l,l1,l2⟩:=hrows p hpm
   have hTl:=ot.l
   have skip:(p.1≠x→¬Rg (wy gr) gr.length p.1 x)→Oth gr hs x (j+1) T:=fun no=>⟨ot.s,fun u hu z1 z2=>by
    rw[Zg hpj,List.mem_append,List.mem_singleton] at hu
    rcases hu with hu | rfl
    ·exact ot.c u hu z1 z2
    ·exact absurd z2 (no z1),by omega⟩
   walk_at "ev"
   by_cases e:p.1=x
   ·rw[if_neg (by simp[e]),if_neg (by simp[e])]
    exact hC2 _ _ ⟨_,_,T,rfl,k,hw,skip fun z=>absurd e z⟩
   ·rw[if_pos (by omega)]
    refine Vp (k.L l1) ?_
    by_cases hh:x∈l
    ·rw[decide_eq_true hh]
     try walk_at "ev"
     refine Y8 (k.L l1) ?_
     rw[Z6]
     refine⟨Z1 (by decide),_,hw,by rw[Gj];exact Z8 (by omega),?_⟩
     rw[←O1]
     refine hC2 _ _ ⟨_,_,T++[(l.length,p.1)],rfl,k.set (Nat.le_refl _) _,Yj hw,fun u hu=>?_,fun u hu z1 z2=>?_,by rw[List.length_append,List.length_singleton];omega⟩
     ·rcases List.mem_append.mp hu with z | z
      ·exact ot.s u z
      ·rw[List.mem_singleton] at z
       subst z
       exact⟨List.mem_map.mpr ⟨p,hpm,rfl⟩,e,(l2.2 x).mp hh,fun l' r'=>by rw[r'.uniq l2]⟩
     ·rw[Zg hpj,List.mem_append,List.mem_singleton] at hu
      rcases hu with hu | rfl
      ·obtain⟨n,z⟩:=ot.c u hu z1 z2
       exact⟨n,List.mem_append_left _ z⟩
      ·exact⟨l.length,List.mem_append_right _ (by simp)⟩
    ·rw[decide_eq_false hh]
     try walk_at "ev"
     exact hC2 _ _ ⟨_,_,T,rfl,k,hw,skip fun _ z=>hh ((l2.2 x).mpr z)⟩
  ·rintro σ M3 ⟨d0,d1,T,rfl,k,hw,ot⟩
   have oc:∀p∈hs,p.1≠x→Rg (wy gr) gr.length p.1 x→∃n,(n,p.1)∈T:=fun p hp=>by
    have:=ot.c p
    have el:(rgT hs).length=hs.length:=by unfold rgT;rw[List.length_map]
    rw[el,List.take_length] at this
    exact this hp
   have hml3:=Xn hD
   have nox:x∉tl.map (·.1):=fun z=>by
    rw[htl] at z
    obtain⟨m,hm,em⟩:=List.mem_take_iff_getElem.mp z
    have:=(List.getElem?_inj (by omega) hnd).mp ((List.getElem?_eq_getElem (show m<hd.length by omega)).trans ((congrArg some em).trans hxi.symm))
    omega
   have tll:tl.length≤64:=by have:=congrArg List.length htl;rw[List.length_map,List.length_take] at this;omega
   have fin:∀(M4:Z2) (d:D),Kp M' M4→V0 gr hd x d→C [some (.ref a),some (.ref M1.length),some (.ref M2.length),some (.int x),some (.ref xr),some (.ref M'.length)] (M4.set M2.length (.dct (putD (nsD tl) (.inl (x:Int)) d))):=by
    intro M4 d k4 im
    have kx4:Kx M2.length (M2++[.dct []]) M4:=by
     obtain⟨L,rfl⟩:=k4
     exact kx.app L
    refine hC _ _ ⟨_,_,_,tl++[(x,d)],rfl,kx4.set (.inl rfl) _,?_,?_,fun p hp=>?_⟩
    ·rw[Zr8 nox]
     exact Qd (k4.D hD)
    ·rw[List.map_append,htl,Zg hxi]
     rfl
    ·rcases List.mem_append.mp hp with z | z
     ·exact hin p z
     ·rw[List.mem_singleton] at z;subst z;exact im
   try walk_at "ev"
   refine⟨Z1 (by decide),?_⟩
   refine Nl (T:=T) (Z4 (Z0 hw)) (Z9 _ _ []) ?_
   have k4:=k.app [Cell.lst []]
   have hw4:=Yh (N:=[Cell.lst []]) hw
   generalize M3++[Cell.lst []]=M4 at k4 hw4
   cases hT:T with
   | nil=>
    subst hT
    try walk_at "ev"
    refine .inr ⟨_,_,k4.D hD,rfl,by unfold nsD;rw[List.length_map];exact Z8 (by omega),?_⟩
    refine fin M4 .non k4 (.inl ⟨rfl,fun o ho ne rg=>?_⟩)
    rw[←he] at ho
    obtain⟨p,hp,rfl⟩:=List.mem_map.mp ho
    obtain⟨n,z⟩:=oc p hp ne rg
    exact(List.not_mem_nil z).elim
   | cons u v=>
    have hem:(u::v).isEmpty=false:=rfl
    rw[hem]
    try walk_at "ev"
    refine⟨T.map fun p=>((p.1:Int),(p.2:Int)),by rw[←Y58];exact Z0 hw4,by rw[hT];simp,fun m hm hmin=>?_⟩
    obtain⟨⟨n,y⟩,hy,rfl⟩:=List.mem_map.mp hm
    simp only[pD]
    try walk_at "ev"
    refine⟨_,rfl,?_⟩
    refine .inr ⟨_,_,k4.D hD,rfl,by unfold nsD;rw[List.length_map];exact Z8 (by omega),?_⟩
    obtain⟨s1,s2,s3,s4⟩:=ot.s _ hy
    refine fin M4 (.int (y:Int)) k4 (.inr ⟨y,rfl,by rw[←he];exact s1,s2,s3,fun o ho ne rg lm lo rm ro=>?_⟩)
    rw[←he] at ho
    obtain⟨p,hp,rfl⟩:=List.mem_map.mp ho
    obtain⟨n',z⟩:=oc p hp ne rg
    obtain⟨_,_,_,t4⟩:=ot.s _ z
    have:=hmin _ (List.mem_map.mpr ⟨_,z,rfl⟩)
    rw[s4 lm rm,t4 lo ro]
    unfold MP.lex at this
    simp only[Bool.or_eq_false_iff,decide_eq_false_iff_not] at this
    have:=this.1
    omega
 ·rintro σ M' ⟨d3,d4,d5,tl,rfl,kx,hD,htl,hin⟩
  have el:(rgT hs).length=hd.length:=by unfold rgT;rw[List.length_map,hlen]
  rw[el,List.take_length] at htl
  simp only[Fm]
  walk_at "ev"
  have m1:=k1.len
  have m2:=k2.len
  exact q tl hd M' M2.length hof h64 htl hin (Kx.kp ((k1.trans k2).app _) kx (by omega)) hD (by omega)
end
theorem Zq9{tl:List (Nat×D)}{p:Nat×D}(nd:(tl.map (·.1)).Nodup)(hp:p∈tl):valD (nsD tl) (.inl (p.1:Int))=some p.2:=by
 unfold valD
 induction tl with
 | nil=>exact(List.not_mem_nil hp).elim
 | cons u r ih=>
  rw[List.map_cons,List.nodup_cons] at nd
  unfold nsD at ih ⊢
  rw[List.map_cons,List.find?_cons]
  rcases List.mem_cons.mp hp with rfl | hp
  ·simp
  ·have ne:¬(Sum.inl (u.1:Int):Key)=Sum.inl (p.1:Int):=fun z=>nd.1 (List.mem_map.mpr ⟨p,hp,by have:=Sum.inl.inj z;omega⟩)
   rw[show decide ((Sum.inl (u.1:Int):Key)=Sum.inl (p.1:Int))=false from decide_eq_false ne]
   simp only[]
   exact ih nd.2 hp
theorem V0.fl{gr:List Nd}{hs:List Nat}{h:Nat}{d:D}(i:V0 gr hs h d):Yq d=true:=by
 rcases i with⟨rfl,_⟩ | ⟨m,rfl,_⟩<;>rfl
theorem Z18{M M':Z2}{r:Nat}{kvs:List (Key×D)}(h:Zm M r=some kvs)(k:Kp (M.set r (.fdc kvs)) M'):M'[r]?=some (.fdc kvs)∧Kp M (M'.set r (.dct kvs)):=by
 have hl:=Xn h
 obtain⟨L,rfl⟩:=k
 refine⟨?_,L,?_⟩
 ·rw[List.getElem?_append_left (by rw[List.length_set];exact hl),List.getElem?_set_self hl]
 ·rw[List.set_append_left _ _ (by rw[List.length_set];exact hl),List.set_set]
  congr 1
  apply List.ext_getElem?
  intro i
  by_cases e:r=i
  ·subst e;rw[List.getElem?_set_self hl,Wm h]
  ·rw[List.getElem?_set_ne e]
theorem froz{M:Z2}{r:Nat}{kvs:List (Key×D)}(h:Zm M r=some kvs):(M.set r (.fdc kvs))[r]?=some (.fdc kvs):=List.getElem?_set_self (Xn h)
theorem Tc.set{M:Z2}{gr:List Nd}{hs:List (Nat×Nat)}{r:Nat}{c:Cell}{kvs:List (Key×D)}(h:Tc M gr hs)(hr:Zm M r=some kvs):Tc (M.set r c) gr hs:=
 ⟨h.1,h.2.1,fun p hp=>by
  obtain⟨h1,l,h2,h3⟩:=h.2.2 p hp
  refine⟨h1,l,Yr h2 fun z=>?_,h3⟩
  have:=Wm hr
  rw[z,Wi h2] at this
  cases this⟩
def Px:DSp:=fun ds M Q _=>∃(f r:Nat) (gr:List Nd) (hd:List Nat) (tl:List (Nat×D)) (hs:List (Nat×Nat)),ds=[.ref f,.ref r]∧f≠r∧Zm M f=some (nsD tl)∧Zm M r=some (rgD hs)∧Tc M gr hs∧gr.length≤31∧GT.Num (wy gr) gr.length∧tl.map (·.1)=hd∧hd.Nodup∧(∀o,o∈hds hs↔o∈hd)∧(∀p∈tl,V0 gr hd p.1 p.2)∧∀M',Kp M M'→Q (.bl true) M'
section
variable{K:PySem.W.Frag}
theorem Zt3{Γ G}(g23:Γ[23]?=some (Yy 2))(g26:Γ[26]?=some Bo):RR ⟨K,Γ,G⟩ b_Lnest O6 Px:=by
 rintro ds M Q Z ⟨f,r,gr,hd,tl,hs,rfl,fr,hf,hr,ok,hn,num,htl,hnd,same,hin,q⟩
 have leq:tl.length=hs.length:=by
  have e1:tl.length=hd.length:=by rw[←htl,List.length_map]
  have e2:hs.length=(hds hs).length:=by unfold hds;rw[List.length_map]
  have a:=Qu ok.1 fun x hx=>(same x).mp hx
  have b:=Qu hnd fun x hx=>(same x).mpr hx
  omega
 simp only[b_Lnest,O6]
 walk_at "ev"
 rw[Y46 hf]
 try walk_at "ev"
 refine .inr ⟨_,hf,.inr ⟨_,hr,?_⟩⟩
 have e1:(nsD tl).length=tl.length:=by unfold nsD;rw[List.length_map]
 have e2:(rgD hs).length=hs.length:=by unfold rgD;rw[List.length_map]
 rw[e1,e2,leq]
 try walk_at "ev"
 rw[if_neg (by simp)]
 simp only[Ju]
 walk_at "ev"
 refine⟨_,hr,?_⟩
 rw[W4]
 refine X3 (fun i σ M'=>∃d2,σ=[some (.ref f),some (.ref r),d2]∧Kp (M.set r (.fdc (rgD hs))) M') ⟨none,rfl,Kp.refl _⟩ ?_ ?_ ?_
 ·rintro i σ M' _ ⟨d2,rfl,k⟩
  exact⟨_,k.get (froz hr),(W4 hs).symm⟩
 ·rintro i dx σ M' C hx ⟨d2,rfl,k⟩ hC
  have hi:i< (hds hs).length:=by have:=(List.getElem?_eq_some_iff.mp hx).1;rwa[Z6] at this
  have hxi:(hds hs)[i]?=some (hds hs)[i]:=List.getElem?_eq_getElem hi
  generalize (hds hs)[i]=x at hxi
  rw[Zy hxi] at hx
  cases hx
  have hxd:x∈hd:=(same x).mp (List.mem_of_getElem? hxi)
  rw[←htl] at hxd
  obtain⟨p,hp,rfl⟩:=List.mem_map.mp hxd
  have hv:=Zq9 (by rw[htl];exact hnd) hp
  have hf2:=k.D (Tz (c:= .fdc (rgD hs)) hf (Ne.symm fr))
  simp only[Nb]
  walk_at "ev"
  refine .inr ⟨_,_,hf2,rfl,?_⟩
  rw[hv]
  try walk_at "ev"
  refine ix_d (y:= .inl (p.1:Int)) hf2 rfl hv ?_
  try walk_at "ev"
  simp only[g23,g26]
  refine⟨r,p.1,gr,hs,rfl,k.get (froz hr),(ok.set hr).keep k,hn,fun d M2 im k2=>?_⟩
  have ed:p.2=d:=(V0.uniq num (hs:=hds hs) (ks:=hd) (fun o ho=>by
   obtain⟨u,hu,rfl⟩:=List.mem_map.mp ho
   obtain⟨u1,l,_,u3⟩:=ok.2.2 u hu
   exact⟨u1,l,u3⟩) same im (hin p hp)).symm
  subst ed
  refine⟨_,_,rfl,AL.flat (hin p hp).fl,?_⟩
  try walk_at "ev"
  exact hC _ _ ⟨_,rfl,k.trans k2⟩
 ·rintro σ M' ⟨d2,rfl,k⟩
  obtain⟨t1,t2⟩:=Z18 hr k
  refine⟨_,t1,?_⟩
  simp only[Nt]
  walk_at "ev"
  exact q _ t2
end
theorem Z97{M:Z2}{n m k:Nat}{xs:List D}(h1:Zd M m=some xs)(h2:Zd M k=some xs)(hs:xs.length≤100000)(hf:∀x∈xs,Yq x=true):AL M (n+1) (.ref m) (.ref k):=by
 refine .inr (.inr ⟨m,k,xs,xs,rfl,rfl,h1,h2,rfl,hs,fun i u v hu hv=>?_⟩)
 rw[hu] at hv
 cases hv
 exact AL.flat (hf u (List.mem_of_getElem? hu))
theorem Y56{M:Z2}(d:Nd):AL M 1 d.d d.d:=by
 have key:∀xs:List D,xs.length≤100000→(∀x∈xs,Yq x=true)→AL M 1 (.tup xs) (.tup xs):=by
  intro xs hs hf
  refine .inr (.inl ⟨xs,xs,rfl,rfl,rfl,hs,fun i u v hu hv=>?_⟩)
  rw[hu] at hv
  cases hv
  exact AL.flat (hf u (List.mem_of_getElem? hu))
 cases d with
 | sum x a sg b t=>cases a<;>cases b<;>exact key _ (by simp) (by simp[Opd.d,Yq])
 | test a sg b y n=>cases a<;>cases b<;>exact key _ (by simp) (by simp[Opd.d,Yq])
 | fin=>exact key _ (by simp) (by simp[Yq])
 | spin=>exact key _ (by simp) (by simp[Yq])
theorem Y60{M:Z2}{m k:Nat}{gr:List Nd}(h1:Zd M m=some (gr.map Nd.d))(h2:Zd M k=some (gr.map Nd.d))(hs:gr.length≤1000):AL M 2 (.ref m) (.ref k):=by
 refine .inr (.inr ⟨m,k,_,_,rfl,rfl,h1,h2,rfl,by rw[List.length_map];omega,fun i u v hu hv=>?_⟩)
 rw[hu] at hv
 cases hv
 rw[List.getElem?_map,Option.map_eq_some_iff] at hu
 obtain⟨d,_,rfl⟩:=hu
 exact Y56 d
theorem Zh9(l:List Nat):∀x∈natD l,Yq x=true:=by
 intro x hx
 obtain⟨y,_,rfl⟩:=List.mem_map.mp hx
 rfl
theorem Zr7{M:Z2}{m k:Nat}{l:List Nat}(h1:Zd M m=some (natD l))(h2:Zd M k=some (natD l))(hs:l.length≤1000):AL M 2 (.ref m) (.ref k):=Z97 h1 h2 (by rw[Z6];omega) (Zh9 l)
theorem Nx{M:Z2}{a b:Nat}{xs:List D}{ys:List (Key×D)}(h1:Z7 M a=some xs)(h2:Zm M b=some ys):a≠b:=fun z=>by
 subst z
 unfold Z7 at h1
 rw[Wm h2] at h1
 cases h1
theorem Tc.setO{M:Z2}{gr:List Nd}{hs:List (Nat×Nat)}{r:Nat}{c:Cell}(h:Tc M gr hs)(n:∀p∈hs,r≠p.2):Tc (M.set r c) gr hs:=
 ⟨h.1,h.2.1,fun p hp=>by obtain⟨h1,l,h2,h3⟩:=h.2.2 p hp;exact⟨h1,l,Yr h2 (n p hp),h3⟩⟩
theorem Zb0(hs:List (Nat×Nat))(y:Nat):(valD (rgD hs) (.inl (y:Int))).isSome=decide (y∈hds hs):=by
 unfold valD
 induction hs with
 | nil=>simp[rgD,hds]
 | cons p r ih=>
  unfold rgD hds at ih ⊢
  rw[List.map_cons,List.map_cons,List.find?_cons]
  by_cases e:p.1=y
  ·subst e;simp
  ·have e':¬(Sum.inl (p.1:Int):Key)=Sum.inl (y:Int):=fun z=>e (by have:=Sum.inl.inj z;omega)
   rw[show decide ((Sum.inl (p.1:Int):Key)=Sum.inl (y:Int))=false from decide_eq_false e']
   simp only[]
   rw[ih,Bool.eq_iff_iff,decide_eq_true_eq,decide_eq_true_eq,List.mem_cons]
   exact⟨.inr,fun h=>h.resolve_left fun z=>e z.symm⟩
theorem Zo3{hs:List (Nat×Nat)}{y n:Nat}(no:y∉hds hs):putD (rgD hs) (.inl (y:Int)) (.ref n)=rgD (hs++[(y,n)]):=by
 unfold putD
 rw[if_neg]
 ·unfold rgD;rw[List.map_append];rfl
 ·intro z
  obtain⟨kv,h1,h2⟩:=List.any_eq_true.mp z
  obtain⟨p,hp,rfl⟩:=List.mem_map.mp h1
  rw[decide_eq_true_eq] at h2
  have:p.1=y:=by have:=Sum.inl.inj h2;omega
  exact no (List.mem_map.mpr ⟨p,hp,this⟩)
section
variable{K:PySem.W.Frag}
theorem Y83{Γ G}(g9:Γ[9]?=some Yl)(g10:Γ[10]?=some Yt)(g19:Γ[19]?=some Xc)(g21:Γ[21]?=some Wr)(g22:Γ[22]?=some Zo)(g23:Γ[23]?=some (Yy 2))(g24:Γ[24]?=some Vz)(g25:Γ[25]?=some Tq)(g27:Γ[27]?=some Px):
  RR ⟨K,Γ,G⟩ b_law Ze4 Bw:=by
 rintro ds M Q Z ⟨ns,rfl,rfl,hl,hb,q⟩
 simp only[b_law,Ze4]
 walk_at "ev"
 simp only[g19,g21,g22]
 refine⟨0,0,16,ns,rfl,rfl,hl,hb,by decide,by decide,by decide,fun gr M1 r1 num h16 hok k1 hw1 _=>?_⟩
 try walk_at "ev"
 refine⟨r1,gr,rfl,Z0 hw1,by omega,num,fun rs M2 r2 tl k2 hw2 _=>?_⟩
 try walk_at "ev"
 refine⟨_,k2.L (Z0 hw1),?_⟩
 have kA:Kp M2 (M2++[.lst (gr.map Nd.d)]++[.dct []]):=(Kp.new M2 _).app _
 have hH:Zd (M2++[.lst (gr.map Nd.d)]++[.dct []]) M2.length=some (gr.map Nd.d):=Yh (Za _ _ [])
 have hR:Zm (M2++[Cell.lst (gr.map Nd.d)]++[Cell.dct []]) (M2++[Cell.lst (gr.map Nd.d)]).length=some (rgD []):=Wd _ _ []
 try walk_at "ev"
 generalize M2++[Cell.lst (gr.map Nd.d)]++[Cell.dct []]=M3 at kA hH hR ⊢
 generalize M2.length=rH at hH ⊢
 generalize (M2++[Cell.lst (gr.map Nd.d)]).length=rR at hR ⊢
 have hG:=(k2.trans kA).W hw1
 have hO:=kA.L (Z0 hw2)
 have tl:=tl.keep kA
 refine⟨r1,gr,rfl,Z0 hG,by omega,fun ps M5 r5 hb5 k5 hw5 hr5=>?_⟩
 have hG:=k5.W hG
 have hO:=k5.L hO
 have tl:=tl.keep k5
 have hH:=k5.W hH
 have hR:=k5.D hR
 have hps:ps.length≤62:=by have:=hb5.2;omega
 have n1:=Nx (Z0 hG) hR
 have nH:=Nx (Z0 hH) hR
 have nO:=Nx hO hR
 have n5:=Nx (Z0 hw5) hR
 have hRl:=Xn hR
 try walk_at "ev"
 refine⟨_,Z0 hw5,?_⟩
 refine X3 (fun i σ M'=>∃d5 d6 d7 d8 d9 hs,σ=[some (.ref 0),some (.ref r1),some (.ref r2),some (.ref rH),some (.ref rR),d5,d6,d7,d8,d9]∧Kx rR M5 M'∧Zm M' rR=some (rgD hs)∧Tc M' gr hs∧hs.length≤i∧∀h,h∈hds hs↔∃x,(x,h)∈ps.take i∧¬GT.Av (wy gr) h x) ⟨none,none,none,none,none,[],rfl,Kx.refl _ _,hR,⟨List.nodup_nil,by simp,fun p hp=>(List.not_mem_nil hp).elim⟩,Nat.le_refl _,fun h=>by simp[hds]⟩ ?_ ?_ ?_
 ·rintro i σ M' _ ⟨d5,d6,d7,d8,d9,hs,rfl,kx,_⟩
  exact kx.L (Z0 hw5) n5
 ·rintro i dx σ M' C hx ⟨d5,d6,d7,d8,d9,hs,rfl,kx,hD,ok,hhl,hm⟩ hC
  obtain⟨⟨x,y⟩,hp,rfl⟩:=Gg hx
  have hi:i<ps.length:=(List.getElem?_eq_some_iff.mp hp).1
  obtain⟨hx1,hx2,hx3⟩:=(hb5.1 x y).mp (List.mem_of_getElem? hp)
  have hyn:=num.cl x hx1 y hx2
  obtain⟨ov,hov⟩:∃ov,rs[x]?=some ov:=⟨_,List.getElem?_eq_getElem (by rw[tl.1];exact hx1)⟩
  obtain⟨L,hL,hLl,hLm⟩:=tl.2 _ ov hov
  have more:∀h,(∃z,(z,h)∈ps.take (i+1)∧¬GT.Av (wy gr) h z)↔(∃z,(z,h)∈ps.take i∧¬GT.Av (wy gr) h z)∨(h=y∧¬GT.Av (wy gr) y x):=by
   intro h
   constructor
   ·rintro⟨z,h1,h2⟩
    rw[Zg hp,List.mem_append,List.mem_singleton,Prod.mk.injEq] at h1
    rcases h1 with h1 | ⟨rfl,rfl⟩
    ·exact .inl ⟨z,h1,h2⟩
    ·exact .inr ⟨rfl,h2⟩
   ·rintro(⟨z,h1,h2⟩ | ⟨rfl,h2⟩)
    ·exact⟨z,by rw[Zg hp];exact List.mem_append_left _ h1,h2⟩
    ·exact⟨x,by rw[Zg hp];exact List.mem_append_right _ List.mem_cons_self,h2⟩
  have skip:(¬GT.Av (wy gr) y x→y∈hds hs)→∀h,h∈hds hs↔∃x,(x,h)∈ps.take (i+1)∧¬GT.Av (wy gr) h x:=fun no h=>by
   rw[more h,←hm h]
   exact⟨.inl,fun z=>z.elim id fun u=>u.1 ▸ no u.2⟩
  simp only[Z84]
  walk_at "ev"
  refine ix_l (kx.L hO nO) (by rw[List.getElem?_map,hov];rfl) ?_
  refine Vp (kx.L hL (Nx hL hR)) ?_
  by_cases hyL:y∈L
  ·rw[decide_eq_true hyL]
   try walk_at "ev"
   refine .inr ⟨_,_,hD,rfl,?_⟩
   rw[Zb0]
   by_cases hys:y∈hds hs
   ·rw[decide_eq_true hys]
    try walk_at "ev"
    exact hC _ _ ⟨_,_,_,_,_,hs,rfl,kx,hD,ok,by omega,skip fun _=>hys⟩
   ·rw[decide_eq_false hys]
    try walk_at "ev"
    simp only[g9]
    refine⟨rH,y,gr,rfl,kx.L (Z0 hH) nH,by omega,num,hyn,fun l M6 r6 hl6 k6 hw6 hr6=>?_⟩
    have kx6:Kx rR M5 M6:=by obtain⟨N,rfl⟩:=k6;exact kx.app N
    try walk_at "ev"
    simp only[g23,g24]
    have tl6:Gq M6 rs gr.length (fun k y=>y<gr.length∧¬GT.Av (wy gr) y k):=⟨tl.1,fun k z e=>by
     obtain⟨L',z1,z2,z3⟩:=tl.2 k z e
     exact⟨L',kx6.L z1 (Nx z1 hR),z2,z3⟩⟩
    refine⟨r1,r2,y,gr,rs,rfl,kx6.L (Z0 hG) n1,by omega,num,hyn,kx6.L hO nO,tl6,fun l' M7 r7 hl7 k7 hw7 hr7=>?_⟩
    cases hl7.uniq hl6
    have ln:=hl6.len hyn
    refine⟨_,_,rfl,Zr7 (k7.W hw6) hw7 (by omega),?_⟩
    try walk_at "ev"
    simp only[Ba]
    walk_at "ev"
    have hw67:=k7.W hw6
    have kx7:Kx rR M5 M7:=by obtain⟨N,rfl⟩:=k7;exact kx6.app N
    have hD7:=k7.D (k6.D hD)
    have ok7:=(ok.keep k6).keep k7
    have pl:∀p∈hs,p.2<M'.length:=fun p hp=>by obtain⟨_,l,z,_⟩:=ok.2.2 p hp;exact X8 z
    have m6:=k6.len
    have m7:=k7.len
    have h67:=X8 hw67
    have hDl:=Xn hD
    refine⟨_,Z0 hw67,?_⟩
    refine .inr ⟨_,_,Wh hD7,rfl,by unfold rgD;rw[List.length_map];exact Z8 (by omega),?_⟩
    rw[Zo3 hys]
    have hnew:Zd ((M7++[Cell.lst (natD l)]).set rR (.dct (rgD (hs++[(y,M7.length)])))) M7.length=some (natD l):=Yr (Za _ _ []) (by omega)
    have hfd:Zd ((M7++[Cell.lst (natD l)]).set rR (.dct (rgD (hs++[(y,M7.length)])))) r6=some (natD l):=Yr (Yh hw67) (by omega)
    have hD8:=Qd (ys:=rgD (hs++[(y,M7.length)])) (Wh (N:=[Cell.lst (natD l)]) hD7)
    have kx8:=(kx7.app [Cell.lst (natD l)]).set (r:=rR) (.inl rfl) (.dct (rgD (hs++[(y,M7.length)])))
    have ok8:Tc ((M7++[Cell.lst (natD l)]).set rR (.dct (rgD (hs++[(y,M7.length)])))) gr hs:=(ok7.keep (Kp.new _ _)).setO fun p hp=>by
     obtain⟨_,l',z,_⟩:=ok.2.2 p hp
     exact Ne.symm (Nx (Z0 z) hD)
    generalize (M7++[Cell.lst (natD l)]).set rR (.dct (rgD (hs++[(y,M7.length)])))=M8 at hnew hfd hD8 kx8 ok8 ⊢
    try walk_at "ev"
    refine⟨Zi (Z0 hfd),_,hfd,by rw[Z6];exact Z8 (by omega),?_⟩
    have l5:=kx.1
    refine hC _ _ ⟨_,_,_,_,_,hs++[(y,M7.length)],rfl,kx8.set (.inr (by omega)) _,Tz hD8 (by omega),?_,by rw[List.length_append,List.length_singleton];omega,fun h=>?_⟩
    ·refine⟨?_,by rw[List.length_append,List.length_singleton];omega,fun p hp=>?_⟩
     ·unfold hds at hys ⊢
      rw[List.map_append]
      exact List.nodup_append.mpr ⟨ok.1,by simp,fun a ha b hb=>by simp at hb;subst hb;rintro rfl;exact hys ha⟩
     ·rcases List.mem_append.mp hp with z | z
      ·obtain⟨z1,l',z2,z3⟩:=ok8.2.2 p z
       have:=pl p z
       exact⟨z1,l',Yr z2 (by omega),z3⟩
      ·rw[List.mem_singleton] at z
       subst z
       exact⟨hyn,l,Yr hnew (show r6≠M7.length by omega),hl6⟩
    ·rw[more h,←hm h]
     unfold hds
     rw[List.map_append,List.mem_append]
     constructor
     ·rintro(z | z)
      ·exact .inl z
      ·simp at z;exact .inr ⟨z,((hLm y).mp hyL).2⟩
     ·rintro(z | ⟨rfl,_⟩)
      ·exact .inl z
      ·exact .inr (by simp)
  ·rw[decide_eq_false hyL]
   try walk_at "ev"
   exact hC _ _ ⟨_,_,_,_,_,hs,rfl,kx,hD,ok,by omega,skip fun z=>absurd ((hLm y).mpr ⟨hyn,z⟩) hyL⟩
 rintro σ M6 ⟨d5,d6,d7,d8,d9,hs,rfl,kx,hD,ok,hhl,hm⟩
 rw[List.length_map] at hhl hm
 rw[List.take_length] at hm
 have hG6:=kx.W hG n1
 have hH6:=kx.W hH nH
 have nH6:=Nx (Z0 hH6) hD
 simp only[Z35]
 walk_at "ev"
 refine⟨_,hD,?_⟩
 rw[W4]
 have okF:=ok.set (c:= .fdc (rgD hs)) hD
 refine X3 (fun i σ M'=>∃d8 d9,σ=[some (.ref 0),some (.ref r1),some (.ref r2),some (.ref rH),some (.ref rR),d5,d6,d7,d8,d9]∧Kp (M6.set rR (.fdc (rgD hs))) M') ⟨_,_,rfl,Kp.refl _⟩ ?_ ?_ ?_
 ·rintro i σ M' _ ⟨d8,d9,rfl,k⟩
  exact⟨_,k.get (froz hD),(W4 hs).symm⟩
 ·rintro i dx σ M' C hx ⟨d8,d9,rfl,k⟩ hC
  have hi:i<hs.length:=by have:=(List.getElem?_eq_some_iff.mp hx).1;rw[Z6] at this;unfold hds at this;rwa[List.length_map] at this
  obtain⟨p,hpi⟩:∃p,hs[i]?=some p:=⟨_,List.getElem?_eq_getElem hi⟩
  rw[Zy (show(hds hs)[i]?=some p.1 by unfold hds;rw[List.getElem?_map,hpi];rfl)] at hx
  cases hx
  have hpm:=List.mem_of_getElem? hpi
  simp only[Z10]
  walk_at "ev"
  refine⟨_,k.get (froz hD),?_⟩
  rw[W4]
  refine X3 (fun j σ M2'=>∃d9,σ=[some (.ref 0),some (.ref r1),some (.ref r2),some (.ref rH),some (.ref rR),d5,d6,d7,some (.int p.1),d9]∧Kp (M6.set rR (.fdc (rgD hs))) M2') ⟨_,rfl,k⟩ ?_ ?_ ?_
  ·rintro j σ M2' _ ⟨d9,rfl,k⟩
   exact⟨_,k.get (froz hD),(W4 hs).symm⟩
  ·rintro j dy σ M7 C2 hy ⟨d9,rfl,k⟩ hC2
   have hj:j<hs.length:=by have:=(List.getElem?_eq_some_iff.mp hy).1;rw[Z6] at this;unfold hds at this;rwa[List.length_map] at this
   obtain⟨u,huj⟩:∃u,hs[j]?=some u:=⟨_,List.getElem?_eq_getElem hj⟩
   rw[Zy (show(hds hs)[j]?=some u.1 by unfold hds;rw[List.getElem?_map,huj];rfl)] at hy
   cases hy
   have hum:=List.mem_of_getElem? huj
   have ok7:=okF.keep k
   obtain⟨p1,lp,p2,p3⟩:=ok7.2.2 p hpm
   obtain⟨u1,lu,u2,u3⟩:=ok7.2.2 u hum
   simp only[Z61]
   walk_at "ev"
   by_cases e:p.1=u.1
   ·rw[if_neg (by simp[e]),if_neg (by simp[e])]
    exact hC2 _ _ ⟨_,rfl,k⟩
   ·rw[if_pos (by omega)]
    refine ix_f (y:= .inl (p.1:Int)) (k.get (froz hD)) rfl (Rz ok.1 hpm) ?_
    refine ix_f (y:= .inl (u.1:Int)) (k.get (froz hD)) rfl (Rz ok.1 hum) ?_
    simp only[g25]
    refine⟨p.2,u.2,p.1,u.1,gr,lp,lu,rfl,Z0 p2,Z0 u2,p3,u3,num,p1,u1,e,by omega,fun M8 k8=>?_⟩
    try walk_at "ev"
    exact hC2 _ _ ⟨_,rfl,k.trans k8⟩
  ·rintro σ M2' ⟨d9,rfl,k⟩
   exact hC _ _ ⟨_,_,rfl,k⟩
 rintro σ M7 ⟨d8,d9,rfl,k7⟩
 obtain⟨t1,t2⟩:=Z18 hD k7
 refine⟨_,t1,?_⟩
 have hD7:=t2.D hD
 have ok7:=ok.keep t2
 have hH7:=t2.W hH6
 have hG7:=t2.W hG6
 generalize M7.set rR (.dct (rgD hs))=M8 at t2 hD7 ok7 hH7 hG7 ⊢
 have same:∀(hd:List Nat),Q8 gr hd→∀o,o∈hds hs↔o∈hd:=fun hd hof o=>by
  rw[hm o,hof.2 o]
  constructor
  ·rintro⟨x,z1,z2⟩
   obtain⟨a1,a2,a3⟩:=(hb5.1 x o).mp z1
   exact⟨x,a1,a2,a3,z2⟩
  ·rintro⟨x,a1,a2,a3,z2⟩
   exact⟨x,(hb5.1 x o).mpr ⟨a1,a2,a3⟩,z2⟩
 have hDl:=Xn hD7
 simp only[Bt]
 walk_at "ev"
 simp only[g10,g27]
 refine⟨rH,gr,rfl,Z0 hH7,by omega,num,fun tl1 hd1 M9 r9 hof h64 htl hin k9 hD9 hr9=>?_⟩
 try walk_at "ev"
 have nd1:hd1.Nodup:=hof.1.imp fun z=>Nat.ne_of_lt z
 refine⟨r9,rR,gr,hd1,tl1,hs,rfl,by omega,hD9,k9.D hD7,ok7.keep k9,by omega,num,htl,nd1,same hd1 hof,hin,fun M10 k10=>?_⟩
 try walk_at "ev"
 simp only[Bd]
 walk_at "ev"
 have kk:=k9.trans k10
 have hDc:=k10.D hD9
 refine⟨Zi hDc,_,hDc,?_⟩
 have hHc:=Yr (c:= .dct []) (kk.W hH7) (show r9≠rH by have:=X8 hH7;omega)
 have hGc:=Yr (c:= .dct []) (kk.W hG7) (show r9≠r1 by have:=X8 hG7;omega)
 have hRc:=Tz (c:= .dct []) (kk.D hD7) (show r9≠rR by omega)
 have okc:Tc (M10.set r9 (.dct [])) gr hs:=(ok7.keep kk).setO fun p hp=>by
  obtain⟨_,l,z,_⟩:=ok7.2.2 p hp
  have:=X8 z
  omega
 generalize M10.set r9 (.dct [])=M11 at hHc hGc hRc okc ⊢
 have hRl2:=Xn hRc
 try walk_at "ev"
 simp only[g10,g27,g23]
 refine⟨rH,gr,rfl,Z0 hHc,by omega,num,fun tl2 hd2 M12 r12 hof2 h64b htl2 hin2 k12 hD12 hr12=>?_⟩
 have nd2:hd2.Nodup:=hof2.1.imp fun z=>Nat.ne_of_lt z
 refine⟨r12,rR,gr,hd2,tl2,hs,rfl,by omega,hD12,k12.D hRc,okc.keep k12,by omega,num,htl2,nd2,same hd2 hof2,hin2,fun M13 k13=>?_⟩
 try walk_at "ev"
 refine⟨_,_,rfl,Y60 ((k12.trans k13).W hHc) ((k12.trans k13).W hGc) (by omega),?_⟩
 try walk_at "ev"
 exact q _
end
set_option maxHeartbeats 0 in
theorem Zx2{P:Program}{w:World}{K:PySem.W.Frag}{mg:Str→Option Value}{base:Heap}{t:Adr}(T:Tx K mg t){c0 T0:Addr}(KX:K.In base)(GB:base.Ns mainGlobals mg)(BB:Bs K mg base)(hT:PySem.W.tabIn K "_law_inmost"=some (c0,T0)):FnOk P w K mg base (CX1 P w) 31 t.a_law t.d_law ["_law_script"] (spF K Bw):=by
 have PZ:Prg P w K mg base ⟨K,[bot,bot,bot,bot,bot,bot,bot,bot,bot,bot,bot,bot,bot,bot,bot,bot,bot,bot,bot,bot,bot,bot,bot,bot,bot,bot,bot,bot,bot],[]⟩ FN GN BN 0:=Prg.zero (ents T) rfl (by intro sp h;simp only[List.mem_cons,List.not_mem_nil,or_false,or_self] at h;exact h) (fun g x d h1 h2=>by cases h2) (blts T)
 have P0:=PZ.up (show 0≤0 by decide)
 have F0:=fn0 P0 T.F_ways Zt4 Zz3 (sp:=Zx) (by rintro _ _ _ _ ⟨_,rfl,_⟩;rfl) Zz6
 have P1:Prg P w K mg base ⟨K,[Zx,bot,bot,bot,bot,bot,bot,bot,bot,bot,bot,bot,bot,bot,bot,bot,bot,bot,bot,bot,bot,bot,bot,bot,bot,bot,bot,bot,bot],[]⟩ FN GN BN 1:=P0.add 0 (x:="ways") rfl F0 (Nat.le_refl _) (Nat.le_succ _) T.g_ways T.k_ways T.b_ways
 have F1:=fn0 P1 T.F_comings Cb Z82 (sp:=Zb) (by rintro _ _ _ _ ⟨_,_,rfl,_⟩;rfl) (B9 rfl)
 have P2:Prg P w K mg base ⟨K,[Zx,Zb,bot,bot,bot,bot,bot,bot,bot,bot,bot,bot,bot,bot,bot,bot,bot,bot,bot,bot,bot,bot,bot,bot,bot,bot,bot,bot,bot],[]⟩ FN GN BN 2:=P1.add 1 (x:="comings") rfl F1 (Nat.le_refl _) (Nat.le_succ _) T.g_comings T.k_comings T.b_comings
 have F2:=fn0 P2 T.F_last_above O3 Js (sp:=Y3) (by rintro _ _ _ _ ⟨_,_,_,_,_,_,rfl,_⟩;rfl) Zz7
 have P3:Prg P w K mg base ⟨K,[Zx,Zb,Y3,bot,bot,bot,bot,bot,bot,bot,bot,bot,bot,bot,bot,bot,bot,bot,bot,bot,bot,bot,bot,bot,bot,bot,bot,bot,bot],[]⟩ FN GN BN 3:=P2.add 2 (x:="last_above") rfl F2 (Nat.le_refl _) (Nat.le_succ _) T.g_last_above T.k_last_above T.b_last_above
 have F3:=fn0 P3 T.F_last_above_all Sb Su (sp:=Zc) (by rintro _ _ _ _ ⟨_,_,_,_,_,_,rfl,_⟩;rfl) (Z37 rfl)
 have P4:Prg P w K mg base ⟨K,[Zx,Zb,Y3,Zc,bot,bot,bot,bot,bot,bot,bot,bot,bot,bot,bot,bot,bot,bot,bot,bot,bot,bot,bot,bot,bot,bot,bot,bot,bot],[]⟩ FN GN BN 4:=P3.add 3 (x:="last_above_all") rfl F3 (Nat.le_refl _) (Nat.le_succ _) T.g_last_above_all T.k_last_above_all T.b_last_above_all
 have F4:=fn0 P4 T.F_musts Zh4 Zt0 (sp:=Zl) (by rintro _ _ _ _ ⟨_,_,rfl,_⟩;rfl) (Zo8 rfl rfl)
 have P5:Prg P w K mg base ⟨K,[Zx,Zb,Y3,Zc,Zl,bot,bot,bot,bot,bot,bot,bot,bot,bot,bot,bot,bot,bot,bot,bot,bot,bot,bot,bot,bot,bot,bot,bot,bot],[]⟩ FN GN BN 5:=P4.add 4 (x:="musts") rfl F4 (Nat.le_refl _) (Nat.le_succ _) T.g_musts T.k_musts T.b_musts
 have F5:=fn0 P5 T.F_stands_above Rt Qm (sp:=Zn) (by rintro _ _ _ _ ⟨_,_,_,_,_,_,rfl,_⟩;rfl) Zm9
 have P6:Prg P w K mg base ⟨K,[Zx,Zb,Y3,Zc,Zl,Zn,bot,bot,bot,bot,bot,bot,bot,bot,bot,bot,bot,bot,bot,bot,bot,bot,bot,bot,bot,bot,bot,bot,bot],[]⟩ FN GN BN 6:=P5.add 5 (x:="stands_above") rfl F5 (Nat.le_refl _) (Nat.le_succ _) T.g_stands_above T.k_stands_above T.b_stands_above
 have F6:=fn0 P6 T.F_ways_back Na Gr (sp:=Zo) (by rintro _ _ _ _ ⟨_,_,rfl,_⟩;rfl) (Y31 rfl)
 have P7:Prg P w K mg base ⟨K,[Zx,Zb,Y3,Zc,Zl,Zn,Zo,bot,bot,bot,bot,bot,bot,bot,bot,bot,bot,bot,bot,bot,bot,bot,bot,bot,bot,bot,bot,bot,bot],[]⟩ FN GN BN 7:=P6.add 6 (x:="ways_back") rfl F6 (Nat.le_refl _) (Nat.le_succ _) T.g_ways_back T.k_ways_back T.b_ways_back
 have F7:=fn0 P7 T.F_heads Zf4 Zs0 (sp:=Zu) (by rintro _ _ _ _ ⟨_,_,rfl,_⟩;rfl) (Zp5 rfl rfl rfl)
 have P8:Prg P w K mg base ⟨K,[Zx,Zb,Y3,Zc,Zl,Zn,Zo,Zu,bot,bot,bot,bot,bot,bot,bot,bot,bot,bot,bot,bot,bot,bot,bot,bot,bot,bot,bot,bot,bot],[]⟩ FN GN BN 8:=P7.add 7 (x:="heads") rfl F7 (Nat.le_refl _) (Nat.le_succ _) T.g_heads T.k_heads T.b_heads
 have F8:=fn0 P8 T.F_come_to Cq Z36 (sp:=Yi) (by rintro _ _ _ _ ⟨_,_,_,_,_,_,_,_,rfl,_⟩;rfl) Y06
 have P9:Prg P w K mg base ⟨K,[Zx,Zb,Y3,Zc,Zl,Zn,Zo,Zu,Yi,bot,bot,bot,bot,bot,bot,bot,bot,bot,bot,bot,bot,bot,bot,bot,bot,bot,bot,bot,bot],[]⟩ FN GN BN 9:=P8.add 8 (x:="come_to") rfl F8 (Nat.le_refl _) (Nat.le_succ _) T.g_come_to T.k_come_to T.b_come_to
 have F9:=fn0 P9 T.F_ring Zu0 Y18 (sp:=Yl) (by rintro _ _ _ _ ⟨_,_,_,rfl,_⟩;rfl) (Y39 rfl rfl rfl rfl)
 have P10:Prg P w K mg base ⟨K,[Zx,Zb,Y3,Zc,Zl,Zn,Zo,Zu,Yi,Yl,bot,bot,bot,bot,bot,bot,bot,bot,bot,bot,bot,bot,bot,bot,bot,bot,bot,bot,bot],[]⟩ FN GN BN 10:=P9.add 9 (x:="ring") rfl F9 (Nat.le_refl _) (Nat.le_succ _) T.g_ring T.k_ring T.b_ring
 have F10:=fn0 P10 T.F_nest Zr2 Zx5 (sp:=Yt) (by rintro _ _ _ _ ⟨_,_,rfl,_⟩;rfl) (Zw6 rfl rfl)
 have P11:Prg P w K mg base ⟨K,[Zx,Zb,Y3,Zc,Zl,Zn,Zo,Zu,Yi,Yl,Yt,bot,bot,bot,bot,bot,bot,bot,bot,bot,bot,bot,bot,bot,bot,bot,bot,bot,bot],[]⟩ FN GN BN 11:=P10.add 10 (x:="nest") rfl F10 (Nat.le_refl _) (Nat.le_succ _) T.g_nest T.k_nest T.b_nest
 have F11:=fn0 P11 T.F_Lcell Z99 Zp0 (sp:=Yx) (by rintro _ _ _ _ ⟨_,_,_,rfl,_⟩;rfl) Zq1
 have P12:Prg P w K mg base ⟨K,[Zx,Zb,Y3,Zc,Zl,Zn,Zo,Zu,Yi,Yl,Yt,Yx,bot,bot,bot,bot,bot,bot,bot,bot,bot,bot,bot,bot,bot,bot,bot,bot,bot],[]⟩ FN GN BN 12:=P11.add 11 (x:="_law_cell") rfl F11 (Nat.le_refl _) (Nat.le_succ _) T.g_Lcell T.k_Lcell T.b_Lcell
 have F12:=fn0 P12 T.F_Lmixed Z25 Z96 (sp:=Y6) (by rintro _ _ _ _ ⟨_,_,rfl,_⟩;rfl) Za6
 have P13:Prg P w K mg base ⟨K,[Zx,Zb,Y3,Zc,Zl,Zn,Zo,Zu,Yi,Yl,Yt,Yx,Y6,bot,bot,bot,bot,bot,bot,bot,bot,bot,bot,bot,bot,bot,bot,bot,bot],[]⟩ FN GN BN 13:=P12.add 12 (x:="_law_mixed") rfl F12 (Nat.le_refl _) (Nat.le_succ _) T.g_Lmixed T.k_Lmixed T.b_Lmixed
 have F13:=fn0 P13 T.F_Lgreat Z74 Zf0 (sp:=Yc) (by rintro _ _ _ _ ⟨_,rfl,_⟩;rfl) Zd5
 have P14:Prg P w K mg base ⟨K,[Zx,Zb,Y3,Zc,Zl,Zn,Zo,Zu,Yi,Yl,Yt,Yx,Y6,Yc,bot,bot,bot,bot,bot,bot,bot,bot,bot,bot,bot,bot,bot,bot,bot],[]⟩ FN GN BN 14:=P13.add 13 (x:="_law_great") rfl F13 (Nat.le_refl _) (Nat.le_succ _) T.g_Lgreat T.k_Lgreat T.b_Lgreat
 have F14:=fn0 P14 T.F_Lfar Zv0 Y05 (sp:=Wp) (by rintro _ _ _ _ ⟨_,_,_,_,rfl,_⟩;rfl) Y07
 have P15:Prg P w K mg base ⟨K,[Zx,Zb,Y3,Zc,Zl,Zn,Zo,Zu,Yi,Yl,Yt,Yx,Y6,Yc,Wp,bot,bot,bot,bot,bot,bot,bot,bot,bot,bot,bot,bot,bot,bot],[]⟩ FN GN BN 15:=P14.add 14 (x:="_law_far") rfl F14 (Nat.le_refl _) (Nat.le_succ _) T.g_Lfar T.k_Lfar T.b_Lfar
 have F15:=fn0 P15 T.F_Lnode Zc7 Zq0 (sp:=Xf) (by rintro _ _ _ _ ⟨_,_,_,_,rfl,_⟩;rfl) (Zv7 rfl rfl rfl)
 have P16:Prg P w K mg base ⟨K,[Zx,Zb,Y3,Zc,Zl,Zn,Zo,Zu,Yi,Yl,Yt,Yx,Y6,Yc,Wp,Xf,bot,bot,bot,bot,bot,bot,bot,bot,bot,bot,bot,bot,bot],[]⟩ FN GN BN 16:=P15.add 15 (x:="_law_node") rfl F15 (Nat.le_refl _) (Nat.le_succ _) T.g_Lnode T.k_Lnode T.b_Lnode
 have F16:=fn0 P16 T.F_Lgoals Z58 Za7 (sp:=Yb) (by rintro _ _ _ _ ⟨_,rfl,_⟩;rfl) Zb3
 have P17:Prg P w K mg base ⟨K,[Zx,Zb,Y3,Zc,Zl,Zn,Zo,Zu,Yi,Yl,Yt,Yx,Y6,Yc,Wp,Xf,Yb,bot,bot,bot,bot,bot,bot,bot,bot,bot,bot,bot,bot],[]⟩ FN GN BN 17:=P16.add 16 (x:="_law_goals") rfl F16 (Nat.le_refl _) (Nat.le_succ _) T.g_Lgoals T.k_Lgoals T.b_Lgoals
 have F17:=fn0 P17 T.F_Lorder Z94 Zb5 (sp:=Yz) (by rintro _ _ _ _ ⟨_,_,rfl,_⟩;rfl) (Zc3 rfl)
 have P18:Prg P w K mg base ⟨K,[Zx,Zb,Y3,Zc,Zl,Zn,Zo,Zu,Yi,Yl,Yt,Yx,Y6,Yc,Wp,Xf,Yb,Yz,bot,bot,bot,bot,bot,bot,bot,bot,bot,bot,bot],[]⟩ FN GN BN 18:=P17.add 17 (x:="_law_order") rfl F17 (Nat.le_refl _) (Nat.le_succ _) T.g_Lorder T.k_Lorder T.b_Lorder
 have F18:=fn0 P18 T.F_Lgraph Z03 Zb6 (sp:=X5) (by rintro _ _ _ _ ⟨_,_,rfl,_⟩;rfl) (Zi0 rfl)
 have P19:Prg P w K mg base ⟨K,[Zx,Zb,Y3,Zc,Zl,Zn,Zo,Zu,Yi,Yl,Yt,Yx,Y6,Yc,Wp,Xf,Yb,Yz,X5,bot,bot,bot,bot,bot,bot,bot,bot,bot,bot],[]⟩ FN GN BN 19:=P18.add 18 (x:="_law_graph") rfl F18 (Nat.le_refl _) (Nat.le_succ _) T.g_Lgraph T.k_Lgraph T.b_Lgraph
 have F19:=fn0 P19 T.F_Ldrawn Z12 Ze5 (sp:=Xc) (by rintro _ _ _ _ ⟨_,_,_,_,rfl,_⟩;rfl) (Zf1 rfl rfl rfl rfl)
 have P20:Prg P w K mg base ⟨K,[Zx,Zb,Y3,Zc,Zl,Zn,Zo,Zu,Yi,Yl,Yt,Yx,Y6,Yc,Wp,Xf,Yb,Yz,X5,Xc,bot,bot,bot,bot,bot,bot,bot,bot,bot],[]⟩ FN GN BN 20:=P19.add 19 (x:="_law_drawn") rfl F19 (Nat.le_refl _) (Nat.le_succ _) T.g_Ldrawn T.k_Ldrawn T.b_Ldrawn
 have F20:=fn0 P20 T.F_Lwithout Gh En (sp:=Yd) (by rintro _ _ _ _ ⟨_,_,_,rfl,_⟩;rfl) (Em rfl)
 have P21:Prg P w K mg base ⟨K,[Zx,Zb,Y3,Zc,Zl,Zn,Zo,Zu,Yi,Yl,Yt,Yx,Y6,Yc,Wp,Xf,Yb,Yz,X5,Xc,Yd,bot,bot,bot,bot,bot,bot,bot,bot],[]⟩ FN GN BN 21:=P20.add 20 (x:="_law_without") rfl F20 (Nat.le_refl _) (Nat.le_succ _) T.g_Lwithout T.k_Lwithout T.b_Lwithout
 have F21:=fn0 P21 T.F_Lover Zg7 Zs2 (sp:=Wr) (by rintro _ _ _ _ ⟨_,_,rfl,_⟩;rfl) (Zw3 rfl)
 have P22:Prg P w K mg base ⟨K,[Zx,Zb,Y3,Zc,Zl,Zn,Zo,Zu,Yi,Yl,Yt,Yx,Y6,Yc,Wp,Xf,Yb,Yz,X5,Xc,Yd,Wr,bot,bot,bot,bot,bot,bot,bot],[]⟩ FN GN BN 22:=P21.add 21 (x:="_law_over") rfl F21 (Nat.le_refl _) (Nat.le_succ _) T.g_Lover T.k_Lover T.b_Lover
 have F22:=fn0 P22 T.F_Lback Zg0 Zp9 (sp:=Zo) (by rintro _ _ _ _ ⟨_,_,rfl,_⟩;rfl) (Zs7 rfl)
 have P23:Prg P w K mg base ⟨K,[Zx,Zb,Y3,Zc,Zl,Zn,Zo,Zu,Yi,Yl,Yt,Yx,Y6,Yc,Wp,Xf,Yb,Yz,X5,Xc,Yd,Wr,Zo,bot,bot,bot,bot,bot,bot],[]⟩ FN GN BN 23:=P22.add 22 (x:="_law_back") rfl F22 (Nat.le_refl _) (Nat.le_succ _) T.g_Lback T.k_Lback T.b_Lback
 have F23_0:=fn0 P23 T.F_Lalike Qf Os (sp:=(Yy 0)) (by rintro _ _ _ _ ⟨_,_,rfl,_⟩;rfl) Z41
 have P24_0:Prg P w K mg base ⟨K,[Zx,Zb,Y3,Zc,Zl,Zn,Zo,Zu,Yi,Yl,Yt,Yx,Y6,Yc,Wp,Xf,Yb,Yz,X5,Xc,Yd,Wr,Zo,(Yy 0),bot,bot,bot,bot,bot],[]⟩ FN GN BN 24:=P23.add 23 (x:="_law_alike") rfl F23_0 (Nat.le_refl _) (Nat.le_succ _) T.g_Lalike T.k_Lalike T.b_Lalike
 have F23_1:=fn0 P24_0 T.F_Lalike Qf Os (sp:=(Yy 1)) (by rintro _ _ _ _ ⟨_,_,rfl,_⟩;rfl) (Nz rfl)
 have P24_1:Prg P w K mg base ⟨K,[Zx,Zb,Y3,Zc,Zl,Zn,Zo,Zu,Yi,Yl,Yt,Yx,Y6,Yc,Wp,Xf,Yb,Yz,X5,Xc,Yd,Wr,Zo,(Yy 1),bot,bot,bot,bot,bot],[]⟩ FN GN BN 25:=P24_0.add 23 (x:="_law_alike") rfl F23_1 (Nat.le_refl _) (Nat.le_succ _) T.g_Lalike T.k_Lalike T.b_Lalike
 have F23_2:=fn0 P24_1 T.F_Lalike Qf Os (sp:=(Yy 2)) (by rintro _ _ _ _ ⟨_,_,rfl,_⟩;rfl) (Nz rfl)
 have P24:Prg P w K mg base ⟨K,[Zx,Zb,Y3,Zc,Zl,Zn,Zo,Zu,Yi,Yl,Yt,Yx,Y6,Yc,Wp,Xf,Yb,Yz,X5,Xc,Yd,Wr,Zo,(Yy 2),bot,bot,bot,bot,bot],[]⟩ FN GN BN 26:=P24_1.add 23 (x:="_law_alike") rfl F23_2 (Nat.le_refl _) (Nat.le_succ _) T.g_Lalike T.k_Lalike T.b_Lalike
 have F24:=fn0 P24 T.F_Lring Zf5 Zq7 (sp:=Vz) (by rintro _ _ _ _ ⟨_,_,_,_,_,rfl,_⟩;rfl) (Zm3 rfl rfl)
 have P25:Prg P w K mg base ⟨K,[Zx,Zb,Y3,Zc,Zl,Zn,Zo,Zu,Yi,Yl,Yt,Yx,Y6,Yc,Wp,Xf,Yb,Yz,X5,Xc,Yd,Wr,Zo,(Yy 2),Vz,bot,bot,bot,bot],[]⟩ FN GN BN 27:=P24.add 24 (x:="_law_ring") rfl F24 (Nat.le_refl _) (Nat.le_succ _) T.g_Lring T.k_Lring T.b_Lring
 have F25:=fn0 P25 T.F_Lapart Z55 Zc0 (sp:=Tq) (by rintro _ _ _ _ ⟨_,_,_,_,_,_,_,rfl,_⟩;rfl) Ze1
 have P26:Prg P w K mg base ⟨K,[Zx,Zb,Y3,Zc,Zl,Zn,Zo,Zu,Yi,Yl,Yt,Yx,Y6,Yc,Wp,Xf,Yb,Yz,X5,Xc,Yd,Wr,Zo,(Yy 2),Vz,Tq,bot,bot,bot],[]⟩ FN GN BN 28:=P25.add 25 (x:="_law_apart") rfl F25 (Nat.le_refl _) (Nat.le_succ _) T.g_Lapart T.k_Lapart T.b_Lapart
 have F26:=fnK (lv:=28) P26 KX GB BB hT T.g_Linmost T.F_Linmost rfl rfl B1 Gv Gc (by decide+kernel) (by decide+kernel) (sp:=Bo) (by rintro _ _ _ _ ⟨_,_,_,_,rfl,_⟩;rfl) Y86
 have P27:Prg P w K mg base ⟨K,[Zx,Zb,Y3,Zc,Zl,Zn,Zo,Zu,Yi,Yl,Yt,Yx,Y6,Yc,Wp,Xf,Yb,Yz,X5,Xc,Yd,Wr,Zo,(Yy 2),Vz,Tq,Bo,bot,bot],[]⟩ FN GN BN 29:=P26.add 26 (x:="_law_inmost") rfl F26 (Nat.le_refl _) (Nat.le_succ _) T.g_Linmost T.k_Linmost T.b_Linmost
 have F27:=fn0 P27 T.F_Lnest Zi5 Zp4 (sp:=Px) (by rintro _ _ _ _ ⟨_,_,_,_,_,_,rfl,_⟩;rfl) (Zt3 rfl rfl)
 have P28:Prg P w K mg base ⟨K,[Zx,Zb,Y3,Zc,Zl,Zn,Zo,Zu,Yi,Yl,Yt,Yx,Y6,Yc,Wp,Xf,Yb,Yz,X5,Xc,Yd,Wr,Zo,(Yy 2),Vz,Tq,Bo,Px,bot],[]⟩ FN GN BN 30:=P27.add 27 (x:="_law_nest") rfl F27 (Nat.le_refl _) (Nat.le_succ _) T.g_Lnest T.k_Lnest T.b_Lnest
 have F28:=fn0 P28 T.F_law Zy4 Y65 (sp:=Bw) (by rintro _ _ _ _ ⟨_,rfl,_⟩;rfl) (Y83 rfl rfl rfl rfl rfl rfl rfl rfl rfl)
 exact F28
theorem Zw0{l:PySem.W.OpenLaw}{w:World}{fa f:Addr}{K:PySem.W.Frag}{mg:Str→Option Value}{c0 T0:Addr}(hT:PySem.W.tabIn K "_law_inmost"=some (c0,T0))(hfa:mg "law"=some (.ref fa))(h:∃t:Adr,Tx K mg t∧t.a_law=f∧∀(s:Shared) (v:Value),BindsTo s t.d_law ⟨[v],[]⟩ [("_law_script",v)])
  :∃fd:FuncData,(∀(s:Shared) (v:Value),BindsTo s fd ⟨[v],[]⟩ [("_law_script",v)])∧∀base:Heap,K.In base→base.Ns mainGlobals mg→Bs K mg base→FnOk l.prog w K mg base (CX1 l.prog w) 31 fa fd ["_law_script"] (spF K Bw):=by
 obtain⟨t,T,e,hb⟩:=h
 have e2:=hfa.symm.trans T.g_law
 cases e2
 exact⟨t.d_law,hb,fun base kx gb bb=>Zx2 T kx gb bb hT⟩
end K32
namespace Hand
open PySem PySem.Spec PyProof.Rows L2 L3 U K32
noncomputable def kf (n : Str) (i : Nat) (dV kV dc pm : Value) (an : Option Addr) (cd ct : Value) : Obj := ⟨.type "function", none, .func (PySem.W.fnOf n n (Zj (top i)) (Z5 (top i)) (Z3 (top i)) dV kV dc pm an cd ct), #[]⟩
noncomputable def kg (n : Str) (i : Nat) (m : Str) (t c : Nat) : Obj := kf n i .none .none .none (.str m t) none (.ref c) .none
noncomputable def kc (n : Str) (t : Nat) (l a : Int) (r : Nat) (x y : Int) (z : Nat) : Obj := ⟨.type "code", none, .fields #[.str n t, .str n (t + 1), .str "/claim/cut.py" (t + 2), .int l 0, .int a 0, .int 0 0, .int 0 0, .int 3 0, .ref r, .bool true, .int x 0, .ref (r + 1), .none, .ref (r + 2), .ref (r + 3), .ref (r + 4), .int y 0, .int l 0, .str "/claim/cut.py" z], #[]⟩
noncomputable def ke (P : Params) (x : Str) (t : Nat) (v : Value) : DictEntry := ⟨PyData.keyHash P x, .str x t, v⟩
abbrev kd : Value := .type "dict"
abbrev kR (a : Nat) : Value := .ref a
abbrev kS (x : Str) (t : Nat) : Value := .str x t
noncomputable def KH (P : Params) : PySem.W.Frag := (nat_lit 2, ⟨.none, none, .dict #[] 0, #[]⟩) :: (nat_lit 3, ⟨kd, none, .dict #[ke P "__name__" 165 (kS "law_unjump_k32_rings_and_nest" 293), ke P "__doc__" 166 .none, ke P "__package__" 167 .none, ke P "__loader__" 168 (.builtin "__main__.__loader__#opaque"), ke P "__spec__" 169 .none, ke P "__annotations__" 170 (kR 6), ke P "__builtins__" 171 (kR 4), ke P "__file__" 173 (kS "/claim/cut.py" 172), ke P "__cached__" 174 .none, ke P "ways" 195 (kR 21), ke P "comings" 201 (kR 26), ke P "musts" 215 (kR 33), ke P "last_above_all" 225 (kR 40), ke P "last_above" 234 (kR 47), ke P "stands_above" 244 (kR 54), ke P "ways_back" 257 (kR 61), ke P "heads" 268 (kR 68), ke P "ring" 274 (kR 73), ke P "nest" 280 (kR 78), ke P "come_to" 292 (kR 85), ke P "_law_cell" 302 (kR 92), ke P "_law_mixed" 311 (kR 99), ke P "_law_great" 318 (kR 106), ke P "_law_far" 329 (kR 113), ke P "_law_node" 347 (kR 120), ke P "_law_goals" 354 (kR 127), ke P "_law_order" 367 (kR 134), ke P "_law_graph" 378 (kR 141), ke P "_law_drawn" 384 (kR 146), ke P "_law_without" 395 (kR 153), ke P "_law_over" 401 (kR 158), ke P "_law_back" 411 (kR 165), ke P "_law_alike" 420 (kR 172), ke P "_law_ring" 426 (kR 177), ke P "_law_apart" 432 (kR 182), ke P "_law_inmost" 438 (kR 187), ke P "_law_nest" 447 (kR 194), ke P "law" 463 (kR 201)] 38, #[]⟩) :: (nat_lit 20, kc "ways" 189 2 1 15 181 193 194) :: (nat_lit 21, kg "ways" 1 "unjump.nodes" 187 20) :: (nat_lit 25, ⟨(.type "code"), none, .fields #[(.str "comings" 196), (.str "comings" 197), (.str "/claim/cut.py" 198), (.int 8 0), (.int 1 0), (.int 0 0), (.int 0 0), (.int 3 0), (.ref 22), (.bool true), (.int 181 0), (.ref 23), .none, .none, .none, (.ref 24), (.int 199 0), (.int 8 0), (.str "/claim/cut.py" 200)], #[]⟩) :: (nat_lit 26, kg "comings" 2 "unjump.nodes" 187 25) :: (nat_lit 32, kc "musts" 204 15 1 27 181 213 214) :: (nat_lit 33, kg "musts" 4 "unjump.musts" 202 32) :: (nat_lit 39, kc "last_above_all" 216 27 2 34 181 223 224) :: (nat_lit 40, kg "last_above_all" 5 "unjump.musts" 202 39) :: (nat_lit 46, kc "last_above" 226 33 3 41 181 232 233) :: (nat_lit 47, kg "last_above" 6 "unjump.musts" 202 46) :: (nat_lit 53, kc "stands_above" 235 40 3 48 181 242 243) :: (nat_lit 54, kg "stands_above" 7 "unjump.musts" 202 53) :: (nat_lit 60, kc "ways_back" 247 46 1 55 181 255 256) :: (nat_lit 61, kg "ways_back" 9 "unjump.rings" 245 60) :: (nat_lit 67, kc "heads" 258 53 1 62 181 266 267) :: (nat_lit 68, kg "heads" 10 "unjump.rings" 245 67) :: (nat_lit 72, ⟨(.type "code"), none, .fields #[(.str "ring" 269), (.str "ring" 270), (.str "/claim/cut.py" 271), (.int 60 0), (.int 2 0), (.int 0 0), (.int 0 0), (.int 3 0), (.ref 69), (.bool true), (.int 181 0), (.ref 70), .none, .none, .none, (.ref 71), (.int 272 0), (.int 60 0), (.str "/claim/cut.py" 273)], #[]⟩) :: (nat_lit 73, kg "ring" 11 "unjump.rings" 245 72) :: (nat_lit 77, ⟨(.type "code"), none, .fields #[(.str "nest" 275), (.str "nest" 276), (.str "/claim/cut.py" 277), (.int 66 0), (.int 1 0), (.int 0 0), (.int 0 0), (.int 3 0), (.ref 74), (.bool true), (.int 181 0), (.ref 75), .none, .none, .none, (.ref 76), (.int 278 0), (.int 66 0), (.str "/claim/cut.py" 279)], #[]⟩) :: (nat_lit 78, kg "nest" 12 "unjump.rings" 245 77) :: (nat_lit 84, kc "come_to" 281 73 3 79 181 290 291) :: (nat_lit 85, kg "come_to" 13 "unjump.rings" 245 84) :: (nat_lit 91, kc "_law_cell" 295 84 2 86 181 300 301) :: (nat_lit 92, kg "_law_cell" 15 "law_unjump_k32_rings_and_nest" 293 91) :: (nat_lit 98, kc "_law_mixed" 303 88 2 93 181 309 310) :: (nat_lit 99, kg "_law_mixed" 16 "law_unjump_k32_rings_and_nest" 293 98) :: (nat_lit 105, kc "_law_great" 312 91 1 100 181 316 317) :: (nat_lit 106, kg "_law_great" 17 "law_unjump_k32_rings_and_nest" 293 105) :: (nat_lit 112, kc "_law_far" 319 93 4 107 181 327 328) :: (nat_lit 113, kg "_law_far" 18 "law_unjump_k32_rings_and_nest" 293 112) :: (nat_lit 119, kc "_law_node" 330 104 4 114 181 345 346) :: (nat_lit 120, kg "_law_node" 19 "law_unjump_k32_rings_and_nest" 293 119) :: (nat_lit 126, kc "_law_goals" 348 118 1 121 181 352 353) :: (nat_lit 127, kg "_law_goals" 20 "law_unjump_k32_rings_and_nest" 293 126) :: (nat_lit 133, kc "_law_order" 355 124 1 128 181 365 366) :: (nat_lit 134, kg "_law_order" 21 "law_unjump_k32_rings_and_nest" 293 133) :: (nat_lit 140, kc "_law_graph" 368 139 1 135 181 376 377) :: (nat_lit 141, kg "_law_graph" 22 "law_unjump_k32_rings_and_nest" 293 140) :: (nat_lit 145, ⟨(.type "code"), none, .fields #[(.str "_law_drawn" 379), (.str "_law_drawn" 380), (.str "/claim/cut.py" 381), (.int 150 0), (.int 3 0), (.int 0 0), (.int 0 0), (.int 3 0), (.ref 142), (.bool true), (.int 181 0), (.ref 143), .none, .none, .none, (.ref 144), (.int 382 0), (.int 150 0), (.str "/claim/cut.py" 383)], #[]⟩) :: (nat_lit 146, kg "_law_drawn" 23 "law_unjump_k32_rings_and_nest" 293 145) :: (nat_lit 152, kc "_law_without" 385 157 2 147 181 393 394) :: (nat_lit 153, kg "_law_without" 24 "law_unjump_k32_rings_and_nest" 293 152) :: (nat_lit 157, ⟨(.type "code"), none, .fields #[(.str "_law_over" 396), (.str "_law_over" 397), (.str "/claim/cut.py" 398), (.int 168 0), (.int 1 0), (.int 0 0), (.int 0 0), (.int 3 0), (.ref 154), (.bool true), (.int 181 0), (.ref 155), .none, .none, .none, (.ref 156), (.int 399 0), (.int 168 0), (.str "/claim/cut.py" 400)], #[]⟩) :: (nat_lit 158, kg "_law_over" 25 "law_unjump_k32_rings_and_nest" 293 157) :: (nat_lit 164, kc "_law_back" 402 174 1 159 181 409 410) :: (nat_lit 165, kg "_law_back" 26 "law_unjump_k32_rings_and_nest" 293 164) :: (nat_lit 171, kc "_law_alike" 412 181 2 166 181 418 419) :: (nat_lit 172, kg "_law_alike" 27 "law_unjump_k32_rings_and_nest" 293 171) :: (nat_lit 176, ⟨(.type "code"), none, .fields #[(.str "_law_ring" 421), (.str "_law_ring" 422), (.str "/claim/cut.py" 423), (.int 198 0), (.int 3 0), (.int 0 0), (.int 0 0), (.int 3 0), (.ref 173), (.bool true), (.int 181 0), (.ref 174), .none, .none, .none, (.ref 175), (.int 424 0), (.int 198 0), (.str "/claim/cut.py" 425)], #[]⟩) :: (nat_lit 177, kg "_law_ring" 28 "law_unjump_k32_rings_and_nest" 293 176) :: (nat_lit 181, ⟨(.type "code"), none, .fields #[(.str "_law_apart" 427), (.str "_law_apart" 428), (.str "/claim/cut.py" 429), (.int 207 0), (.int 2 0), (.int 0 0), (.int 0 0), (.int 3 0), (.ref 178), (.bool true), (.int 181 0), (.ref 179), .none, .none, .none, (.ref 180), (.int 430 0), (.int 207 0), (.str "/claim/cut.py" 431)], #[]⟩) :: (nat_lit 182, kg "_law_apart" 29 "law_unjump_k32_rings_and_nest" 293 181) :: (nat_lit 186, ⟨(.type "code"), none, .fields #[(.str "_law_inmost" 433), (.str "_law_inmost" 434), (.str "/claim/cut.py" 435), (.int 210 0), (.int 2 0), (.int 0 0), (.int 0 0), (.int 3 0), (.ref 183), (.bool true), (.int 181 0), (.ref 184), .none, .none, .none, (.ref 185), (.int 436 0), (.int 210 0), (.str "/claim/cut.py" 437)], #[]⟩) :: (nat_lit 187, kg "_law_inmost" 30 "law_unjump_k32_rings_and_nest" 293 186) :: (nat_lit 193, kc "_law_nest" 439 215 2 188 181 445 446) :: (nat_lit 194, kg "_law_nest" 31 "law_unjump_k32_rings_and_nest" 293 193) :: (nat_lit 200, kc "law" 448 222 1 195 181 461 462) :: (nat_lit 201, kg "law" 32 "law_unjump_k32_rings_and_nest" 293 200) :: []
noncomputable def qH : Program := { PySem.Challenge.pw_unjump_k32_rings_and_nest with main := { PySem.Challenge.pw_unjump_k32_rings_and_nest.main with body := [top 32] } }
noncomputable def lH : List Str := "ways" :: "comings" :: "musts" :: "last_above_all" :: "last_above" :: "stands_above" :: "ways_back" :: "heads" :: "ring" :: "nest" :: "come_to" :: "_law_cell" :: "_law_mixed" :: "_law_great" :: "_law_far" :: "_law_node" :: "_law_goals" :: "_law_order" :: "_law_graph" :: "_law_drawn" :: "_law_without" :: "_law_over" :: "_law_back" :: "_law_alike" :: "_law_ring" :: "_law_apart" :: "_law_inmost" :: "_law_nest" :: []
noncomputable def aH : List Addr := 2 :: 3 :: 20 :: 21 :: 25 :: 26 :: 32 :: 33 :: 39 :: 40 :: 46 :: 47 :: 53 :: 54 :: 60 :: 61 :: 67 :: 68 :: 72 :: 73 :: 77 :: 78 :: 84 :: 85 :: 91 :: 92 :: 98 :: 99 :: 105 :: 106 :: 112 :: 113 :: 119 :: 120 :: 126 :: 127 :: 133 :: 134 :: 140 :: 141 :: 145 :: 146 :: 152 :: 153 :: 157 :: 158 :: 164 :: 165 :: 171 :: 172 :: 176 :: 177 :: 181 :: 182 :: 186 :: 187 :: 193 :: 194 :: 200 :: 201 :: []
theorem eH (P : Params) : aH = (KH P).map (·.1) := by kernel_rfl
set_option maxHeartbeats 0 in
theorem hlH : PySem.W.LeftO PySem.Challenge.pw_unjump_k32_rings_and_nest qH lH (fun s => PySem.W.xlAt qH [] s && PySem.W.recOk [] s) (PySem.W.Hook.obs (PySem.W.kmHook KH aH eH [184])) (PySem.W.Hook.val (PySem.W.kmHook KH aH eH [184])) 1980 := by intro w; kernel_rfl
end Hand
open PySem PySem.W PyProof.Rows
set_option maxRecDepth 100000 in
set_option maxHeartbeats 0 in
theorem PySem.Challenge.cw_unjump_k32_rings_and_nest_holds : PySem.Challenge.rw_unjump_k32_rings_and_nest.Holds := by
 w_on;o_law;refine holds_open (q := Hand.qH) (loose := Hand.lH) (Xt := fun s => xlAt Hand.qH [] s && recOk [] s) (XP := XL Hand.qH []) (Yf := Hook.obs (kmHook Hand.KH Hand.aH Hand.eH [184])) (Ya := Hook.val (kmHook Hand.KH Hand.aH Hand.eH [184])) (YP := Hook.says (kmHook Hand.KH Hand.aH Hand.eH [184])) (N := 1980) Hand.hlH (Hook.of _) (Hook.keeps _) (fun s e => xl_of s (Bool.and_eq_true_iff.mp e).1) XL.keeps (by rfl) (by rfl) (by rfl) (fun s e => recFacts_of (Bool.and_eq_true_iff.mp e).2) (by rfl) (by first | assumption | decide +kernel) (by decide +kernel) ⟨rfl, rfl, rfl, rfl, rfl, by decide +kernel⟩ ?hw ?hc; (case hw => w_witness2)
 k_fill
 refine' U.Bm (l:=PySem.Challenge.rw_unjump_k32_rings_and_nest) (k:=31) (x:="_law_script") (c0:=186) (T:=184) rfl rfl ⟨rfl,by decide,by decide⟩ (fun w h Y=>PySem.W.km_in_of Y) (fun w h Y=>PySem.W.km_tabs_of Y _ List.mem_cons_self) ?TT ?F
 case TT=>exact fun w h KX=>⟨by kernel_rfl,by kernel_rfl,by kernel_rfl⟩
 case F=>
  intro w mg fa h KX G hmg
  refine' K32.Zw0 (c0:=186) (T0:=184) ?hT hmg (K32.Y61 KX G ?a0 ?l0 ?c0 ?k0 ?a1 ?l1 ?c1 ?k1 ?a2 ?l2 ?c2 ?k2 ?a3 ?l3 ?c3 ?k3 ?a4 ?l4 ?c4 ?k4 ?a5 ?l5 ?c5 ?k5 ?a6 ?l6 ?c6 ?k6 ?a7 ?l7 ?c7 ?k7 ?a8 ?l8 ?c8 ?k8 ?a9 ?l9 ?c9 ?k9 ?a10 ?l10 ?c10 ?k10 ?a11 ?l11 ?c11 ?k11 ?a12 ?l12 ?c12 ?k12 ?a13 ?l13 ?c13 ?k13 ?a14 ?l14 ?c14 ?k14 ?a15 ?l15 ?c15 ?k15 ?a16 ?l16 ?c16 ?k16 ?a17 ?l17 ?c17 ?k17 ?a18 ?l18 ?c18 ?k18 ?a19 ?l19 ?c19 ?k19 ?a20 ?l20 ?c20 ?k20 ?a21 ?l21 ?c21 ?k21 ?a22 ?l22 ?c22 ?k22 ?a23 ?l23 ?c23 ?k23 ?a24 ?l24 ?c24 ?k24 ?a25 ?l25 ?c25 ?k25 ?a26 ?l26 ?c26 ?k26 ?a27 ?l27 ?c27 ?k27 ?a28 ?l28 ?c28 ?k28 ?z0 ?z1 ?z2 ?z3 ?z4 ?z5 ?z6 ?z7 ?z8 ?z9 ?z10 ?z11 ?z12)
  (case hT=>kernel_rfl)
  (case a0=>k_is);(case l0=>k_is);(case c0=>k_is);(case k0=>k_is)
  (case a1=>k_is);(case l1=>k_is);(case c1=>k_is);(case k1=>k_is)
  (case a2=>k_is);(case l2=>k_is);(case c2=>k_is);(case k2=>k_is)
  (case a3=>k_is);(case l3=>k_is);(case c3=>k_is);(case k3=>k_is)
  (case a4=>k_is);(case l4=>k_is);(case c4=>k_is);(case k4=>k_is)
  (case a5=>k_is);(case l5=>k_is);(case c5=>k_is);(case k5=>k_is)
  (case a6=>k_is);(case l6=>k_is);(case c6=>k_is);(case k6=>k_is)
  (case a7=>k_is);(case l7=>k_is);(case c7=>k_is);(case k7=>k_is)
  (case a8=>k_is);(case l8=>k_is);(case c8=>k_is);(case k8=>k_is)
  (case a9=>k_is);(case l9=>k_is);(case c9=>k_is);(case k9=>k_is)
  (case a10=>k_is);(case l10=>k_is);(case c10=>k_is);(case k10=>k_is)
  (case a11=>k_is);(case l11=>k_is);(case c11=>k_is);(case k11=>k_is)
  (case a12=>k_is);(case l12=>k_is);(case c12=>k_is);(case k12=>k_is)
  (case a13=>k_is);(case l13=>k_is);(case c13=>k_is);(case k13=>k_is)
  (case a14=>k_is);(case l14=>k_is);(case c14=>k_is);(case k14=>k_is)
  (case a15=>k_is);(case l15=>k_is);(case c15=>k_is);(case k15=>k_is)
  (case a16=>k_is);(case l16=>k_is);(case c16=>k_is);(case k16=>k_is)
  (case a17=>k_is);(case l17=>k_is);(case c17=>k_is);(case k17=>k_is)
  (case a18=>k_is);(case l18=>k_is);(case c18=>k_is);(case k18=>k_is)
  (case a19=>k_is);(case l19=>k_is);(case c19=>k_is);(case k19=>k_is)
  (case a20=>k_is);(case l20=>k_is);(case c20=>k_is);(case k20=>k_is)
  (case a21=>k_is);(case l21=>k_is);(case c21=>k_is);(case k21=>k_is)
  (case a22=>k_is);(case l22=>k_is);(case c22=>k_is);(case k22=>k_is)
  (case a23=>k_is);(case l23=>k_is);(case c23=>k_is);(case k23=>k_is)
  (case a24=>k_is);(case l24=>k_is);(case c24=>k_is);(case k24=>k_is)
  (case a25=>k_is);(case l25=>k_is);(case c25=>k_is);(case k25=>k_is)
  (case a26=>k_is);(case l26=>k_is);(case c26=>k_is);(case k26=>k_is)
  (case a27=>k_is);(case l27=>k_is);(case c27=>k_is);(case k27=>k_is)
  (case a28=>k_is);(case l28=>k_is);(case c28=>k_is);(case k28=>k_is)
  (case z0=>k_is);(case z1=>k_is);(case z2=>k_is);(case z3=>k_is);(case z4=>k_is);(case z5=>k_is);(case z6=>k_is);(case z7=>k_is);(case z8=>k_is);(case z9=>k_is);(case z10=>k_is);(case z11=>k_is);(case z12=>k_is)
