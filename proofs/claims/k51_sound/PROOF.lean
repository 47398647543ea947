import PyProof.Rows.All
import Wide.All
import OpenK.AllK
import Wide.FinOn
import Lean
import PyProof.EqAt
import PyProof.EqKinds
import PyProof.TupleCall
import PyProof.CompFree
import PyProof.StationsW
import PyProof.ExcClass3
import PyProof.Commute
import OpenK.KGet
import OpenK.KMeth
import PyProof.ExcArgs
import PyProof.ZipIter
import PyProof.ListNew
import PyProof.EnumMake
import PyProof.EnumStmt
import KE.KRevSl
import PyProof.WalkInts
import PyProof.Rows.MinMaxN
import PyProof.AttrMissHeap
import PyProof.DictList
import PyProof.DictUpdate
import KE.KDictOf
import PyProof.DictWalks
import PyProof.Conv_int_bool
import PyProof.Rows.SetFrom
import PyProof.SetRoads
import PyProof.ForAny
import KE.KDictSum
import PyProof.AutoListH
import KE.KRevIter
import KE.KDictList
import PyProof.ConsumeWalk
import PyProof.TupleIter
import PyProof.EnumIter
import PyProof.ZipIter
import PySem.Challenge.RW_unjump_k51_sound
set_option bootstrap.genMatcherCode false
set_option Elab.async false
set_option linter.all false
set_option maxRecDepth 100000
set_option genSizeOf false
set_option compiler.extract_closed false
namespace L2
open PySem PySem.Spec PyProof.Rows
noncomputable abbrev Key:=Sum Int Str
noncomputable def J3:Key→Value→Bool
 | .inl k,v=>Value.isInt k v
 | .inr x,v=>Value.isStrOf x v
noncomputable def keyH(w:World):Key→Int
 | .inl k=>hashInt k
 | .inr x=>hashStr w x
theorem Zv:∀{k:Key} {v:Value},J3 k v=true→(∃i t,k=Sum.inl i∧v=Value.int i t)∨(∃x t,k=Sum.inr x∧v=Value.str x t)
 | .inl i,v,h=>by
  obtain⟨t,e⟩:=Value.isInt_shape (k:=i) (v:=v) h
  exact .inl ⟨i,t,rfl,e⟩
 | .inr x,v,h=>by
  obtain⟨t,e⟩:=Value.isStrOf_shape (x:=x) (v:=v) h
  exact .inr ⟨x,t,rfl,e⟩
theorem Bu(i:Int)(t:Tok):J3 (.inl i) (.int i t)=true:=by simp[J3,Value.isInt]
theorem Z52(x:Str)(t:Tok):J3 (.inr x) (.str x t)=true:=by simp[J3,Value.isStrOf]
theorem Zx8(a b:Int):decide ((Sum.inl a:Key)=Sum.inl b)=(a==b):=by
 by_cases e:a=b
 ·subst e;simp
 ·have h:¬(Sum.inl a:Key)=Sum.inl b:=fun q=>e (Sum.inl.inj q)
  rw[decide_eq_false h]
  exact(beq_eq_false_iff_ne.mpr e).symm
theorem Zv0(a b:Str):decide ((Sum.inr a:Key)=Sum.inr b)=decide (a=b):=by
 by_cases e:a=b
 ·subst e;simp
 ·have h:¬(Sum.inr a:Key)=Sum.inr b:=fun q=>e (Sum.inr.inj q)
  rw[decide_eq_false h,decide_eq_false e]
theorem Zu3(a:Int)(b:Str):decide ((Sum.inl a:Key)=Sum.inr b)=false:=decide_eq_false (fun q=>nomatch q)
theorem Zt4(a:Str)(b:Int):decide ((Sum.inr a:Key)=Sum.inl b)=false:=decide_eq_false (fun q=>nomatch q)
noncomputable def Yb(prog:Program)(w:World):PySem.KeyKind prog w Key where
 is:=J3
 hash:=keyH w
 inj:=fun v a b ha hb=>by
  rcases Zv ha with⟨i,t,rfl,rfl⟩ | ⟨x,t,rfl,rfl⟩
  ·rcases Zv hb with⟨j,u,rfl,e⟩ | ⟨y,u,rfl,e⟩
   ·injection e with e1 _;rw[e1]
   ·exact nomatch e
  ·rcases Zv hb with⟨j,u,rfl,e⟩ | ⟨y,u,rfl,e⟩
   ·exact nomatch e
   ·injection e with e1 _;rw[e1]
 byValue:=fun k v h=>by
  rcases Zv h with⟨i,t,rfl,rfl⟩ | ⟨x,t,rfl,rfl⟩<;>rfl
 pyHash:=fun hv h=>by
  rcases Zv hv with⟨i,t,rfl,rfl⟩ | ⟨x,t,rfl,rfl⟩
  ·exact wpAny_pyHash_int h
  ·exact wpAny_pyHash_str h
 eqBool:=fun hu hv h=>by
  rcases Zv hu with⟨i,t,rfl,rfl⟩ | ⟨x,t,rfl,rfl⟩
  ·rcases Zv hv with⟨j,u,rfl,rfl⟩ | ⟨y,u,rfl,rfl⟩
   ·rw[Zx8] at h;exact wpAny_eqBool_int h
   ·rw[Zu3] at h;exact SeqAt.EqAt.int_str i t y u _ _ _ _ h
  ·rcases Zv hv with⟨j,u,rfl,rfl⟩ | ⟨y,u,rfl,rfl⟩
   ·rw[Zt4] at h;exact SeqAt.EqAt.str_int x t j u _ _ _ _ h
   ·rw[Zv0] at h;exact wpAny_eqBool_str h
 «strs»:=fun k x t v h=>by
  rcases Zv h with⟨i,u,rfl,e⟩ | ⟨y,u,rfl,e⟩
  ·exact nomatch e
  ·injection e with e1 _
   subst e1
   cases v<;>rfl
theorem Ju(prog:Program)(w:World)(i:Int)(t:Tok):(Yb prog w).is (.inl i) (.int i t)=true:=Bu i t
theorem Jt(prog:Program)(w:World)(x:Str)(t:Tok):(Yb prog w).is (.inr x) (.str x t)=true:=Z52 x t
inductive V where
 | non | bl (b:Bool) | int (i:Int) | str (x:Str) | byt (b:Array UInt8) | flt (b:UInt64) | ref (a:Addr) | ty (n:String)
 deriving DecidableEq
def RelV:V→Value→Prop
 | .non,u=>u=Value.none
 | .bl b,u=>u=Value.bool b
 | .int i,u=>∃t,u=Value.int i t
 | .str x,u=>∃t,u=Value.str x t
 | .byt b,u=>∃t,u=Value.bytes b t
 | .flt b,u=>∃t,u=Value.float b t
 | .ref a,u=>u=Value.ref a
 | .ty n,u=>u=Value.type n
abbrev Vals:List V→List Value→Prop:=Paired RelV
theorem Vals.length{xs:List V}{us:List Value}(r:Vals xs us):xs.length=us.length:=Paired.length r
theorem Vals.get:∀{xs:List V} {us:List Value} {i:Nat} {x:V},Vals xs us→xs[i]?=some x→∃u,us[i]?=some u∧RelV x u
 | _,_,_,_,.nil,e=>by simp at e
 | _,_,0,_,.cons r _,e=>by simp at e;subst e;exact⟨_,rfl,r⟩
 | _,_,i+1,x,.cons _ t,e=>by
  obtain⟨u,h1,h2⟩:=Vals.get (i:=i) (x:=x) t (by simpa using e)
  exact⟨u,by simpa using h1,h2⟩
theorem Vals.set{x:V}{u:Value}(r:RelV x u):∀{xs:List V} {us:List Value} (i:Nat),Vals xs us→Vals (xs.set i x) (us.set i u)
 | _,_,_,.nil=> .nil
 | _,_,0,.cons _ t=> .cons r t
 | _,_,i+1,.cons q t=> .cons q (Vals.set r i t)
theorem Vals.append:∀{xs ys:List V} {us ws:List Value},Vals xs us→Vals ys ws→Vals (xs++ys) (us++ws)
 | _,_,_,_,.nil,s=>s
 | _,_,_,_,.cons r t,s=> .cons r (Vals.append t s)
theorem Vals.take:∀{xs:List V} {us:List Value} (n:Nat),Vals xs us→Vals (xs.take n) (us.take n)
 | _,_,0,_=> .nil
 | _,_,_+1,.nil=> .nil
 | _,_,n+1,.cons r t=> .cons r (Vals.take n t)
theorem Vals.drop:∀{xs:List V} {us:List Value} (n:Nat),Vals xs us→Vals (xs.drop n) (us.drop n)
 | _,_,0,r=>r
 | _,_,_+1,.nil=> .nil
 | _,_,n+1,.cons _ t=>Vals.drop n t
def RelO:Option V→Option Value→Prop
 | some v,some u=>RelV v u
 | none,none=>True
 | _,_=>False
def KV{κ:Type}:List (κ×V)→List (κ×Value)→Prop:=Paired fun(p:κ×V) (q:κ×Value)=>p.1=q.1∧RelV p.2 q.2
noncomputable def kV:Key→V
 | .inl i=> .int i
 | .inr x=> .str x
inductive HO where
 | lst (xs:List V)
 | tup (xs:List V)
 | dK (kvs:List (Key×V)) | dT (kvs:List (List Key×V))
 | set (S:Int→Bool) (n:Nat)
 | ins (C dx:Addr) (fs:List (Str×V))
 | own (x:Addr)
 | xd (fs:List (Str×V))
 | met (f x:Addr)
 | rng (lo hi:Int)
 | frz (o:Obj) (u:HO)
 | tbl (ps:Array Value)
 | ext (φ:Heap→Prop)
noncomputable abbrev Hp:=Addr→Option HO
noncomputable def upd(H:Hp)(a:Addr)(o:HO):Hp:=fun b=>if b=a then some o else H b
theorem Yg{H:Hp}{a:Addr}{o:HO}:upd H a o a=some o:=by unfold upd;rw[if_pos rfl]
theorem Zs{H:Hp}{a b:Addr}{o:HO}(h:b≠a):upd H a o b=H b:=by unfold upd;rw[if_neg h]
theorem Y24{H:Hp}{a b:Addr}{o u:HO}(h:H a=some o)(h':H b=some u)(d:o≠u):a≠b:=by
 intro e;subst e;rw[h] at h';exact d (Option.some.inj h')
theorem We{H:Hp}{a b:Addr}{o:HO}(h:H a=some o)(h':H b=none):a≠b:=by
 intro e;subst e;rw[h] at h';cases h'
section
variable(P:Program)(w:World)
def X9(H:Hp)(h:Heap)(a:Addr):HO→Prop
 | .lst xs=>xs.length≤sizeLine∧∃(its:List Value) (n:Nat),Vals xs its∧h.get? a=some {cls:= .type "list",data:= .seq its.toArray n}
 | .tup xs=>xs.length≤sizeLine∧∃its:List Value,Vals xs its∧IsTup h a its.toArray
 | .dK kvs=>kvs.length≤sizeLine∧(a==sysModules)=false∧∃vs,KV kvs vs∧h.DictOf (Yb P w) a vs
 | .dT kvs=>kvs.length≤sizeLine∧(a==sysModules)=false∧∃xs:List (List Key×Addr×Value),
   Paired (fun(p:List Key×V) (q:List Key×Addr×Value)=>p.1=q.1∧H q.2.1=some (.tup (p.1.map kV))∧RelV p.2 q.2.2) kvs xs∧
   ∃o es ep,h.get? a=some o∧o.ExactDict∧o.data= .dict es ep∧es.toList=xs.map (entryOfKey (tupleKind (Yb P w)))∧(xs.map (·.1)).Nodup
 | .set S n=>h.SetOf (intKind P w) a S n
 | .ins C dx fs=>H dx=some (.own a)∧fs.length≤1000∧dx≠a∧h.get? a=some (PySem.W.instObj C dx)∧
   ∃mA,h.Ns1 dx mA∧(∀f,RelO (fs.lookup f) (mA f))∧PySem.Within mA (fs.map (·.1))
 | .own _=>∃o,h.get? a=some o
 | .xd fs=>∃mA,h.Ns1 a mA∧∀f,RelO (fs.lookup f) (mA f)
 | .rng lo hi=>∃t u v,h.get? a=some {cls:= .type "range",data:= .fields #[.int lo t,.int hi u,.int 1 v]}
 | .frz o u=>h.get? a=some o∧X9 H h a u
 | .tbl ps=>h.get? a=some {cls:= .none,data:= .fields ps}
 | .met f x=>h.get? a=some (PySem.W.methodObj (.ref f) (.ref x))
 | .ext φ=>φ h∧(∃o,h.get? a=some o)∧∀h1 h2:Heap,φ h1→(∀o,h1.get? a=some o→h2.get? a=some o)→φ h2
def HOk(H:Hp)(h:Heap):Prop:=∀a o,H a=some o→X9 P w H h a o
end
section
variable{P:Program}{w:World}{H H':Hp}{h h':Heap}{a:Addr}{o:HO}
theorem X9.lt(x:X9 P w H h a o):a<h.objs.size:=by
 cases o with
 | lst xs=>obtain⟨_,_,_,_,e⟩:=x;exact Heap.lt_size e
 | tup xs=>obtain⟨_,_,_,p⟩:=x;exact p.lt
 | dK kvs=>obtain⟨_,_,_,_,o,_,_,e,_⟩:=x;exact Heap.lt_size e
 | dT kvs=>obtain⟨_,_,_,_,o,_,_,e,_⟩:=x;exact Heap.lt_size e
 | set S n=>obtain⟨o,_,_,_,e,_⟩:=x;exact Heap.lt_size e
 | ins C dx fs=>obtain⟨_,_,_,e,_⟩:=x;exact Heap.lt_size e
 | own y=>obtain⟨_,e⟩:=x;exact Heap.lt_size e
 | xd fs=>obtain⟨_,⟨_,_,_,e,_⟩,_⟩:=x;exact Heap.lt_size e
 | rng lo hi=>obtain⟨_,_,_,e⟩:=x;exact Heap.lt_size e
 | frz ob u=>obtain⟨e,_⟩:=x;exact Heap.lt_size e
 | tbl ps=>exact Heap.lt_size (show h.get? a=some _ from x)
 | met f y=>exact Heap.lt_size (show h.get? a=some _ from x)
 | ext φ=>obtain⟨_,⟨_,e⟩,_⟩:=x;exact Heap.lt_size e
theorem Paired.mapP{α β:Type}{F G:α→β→Prop}:∀{l₁:List α} {l₂:List β},Paired F l₁ l₂→(∀a b,F a b→G a b)→Paired G l₁ l₂
 | _,_,.nil,_=> .nil
 | _,_,.cons r t,f=> .cons (f _ _ r) (Paired.mapP t f)
theorem X9.stay(x:X9 P w H h a o)(k:∀b u,(b=a∨H b=some (.own a))→h.get? b=some u→h'.get? b=some u)
  (ho:∀b,H b=some (.own a)→H' b=some (.own a)) (ht:∀b xs,H b=some (.tup xs)→H' b=some (.tup xs)):X9 P w H' h' a o:=by
 induction o with
 | lst xs=>obtain⟨z,its,n,r,e⟩:=x;exact⟨z,its,n,r,k _ _ (.inl rfl) e⟩
 | tup xs=>obtain⟨z,its,r,ob,e,c⟩:=x;exact⟨z,its,r,ob,k _ _ (.inl rfl) e,c⟩
 | dK kvs=>obtain⟨z,y,vs,r,ob,es,ep,e,c⟩:=x;exact⟨z,y,vs,r,ob,es,ep,k _ _ (.inl rfl) e,c⟩
 | dT kvs=>
  obtain⟨z,y,xs,r,ob,es,ep,e,c⟩:=x
  exact⟨z,y,xs,Paired.mapP r fun p q z=>⟨z.1,ht _ _ z.2.1,z.2.2⟩,ob,es,ep,k _ _ (.inl rfl) e,c⟩
 | set S n=>obtain⟨ob,es,ep,t,e,c⟩:=x;exact⟨ob,es,ep,t,k _ _ (.inl rfl) e,c⟩
 | ins C dx fs=>
  obtain⟨d,z,ne,e,mA,⟨od,es,ep,e2,c⟩,r⟩:=x
  exact⟨ho _ d,z,ne,k _ _ (.inl rfl) e,mA,⟨od,es,ep,k _ _ (.inr d) e2,c⟩,r⟩
 | own y=>obtain⟨ob,e⟩:=x;exact⟨ob,k _ _ (.inl rfl) e⟩
 | xd fs=>obtain⟨mA,⟨od,es,ep,e,c⟩,r⟩:=x;exact⟨mA,⟨od,es,ep,k _ _ (.inl rfl) e,c⟩,r⟩
 | rng lo hi=>obtain⟨t,u,v,e⟩:=x;exact⟨t,u,v,k _ _ (.inl rfl) e⟩
 | frz ob u ih=>obtain⟨e,q⟩:=x;exact⟨k _ _ (.inl rfl) e,ih q⟩
 | tbl ps=>
  have e:h.get? a=some {cls:= .none,data:= .fields ps}:=x
  show h'.get? a=some {cls:= .none,data:= .fields ps}
  exact k a _ (.inl rfl) e
 | met f y=>
  have e:h.get? a=some (PySem.W.methodObj (.ref f) (.ref y)):=x
  show h'.get? a=some (PySem.W.methodObj (.ref f) (.ref y))
  exact k a _ (.inl rfl) e
 | ext φ=>obtain⟨p,⟨o,e⟩,st⟩:=x;exact⟨st _ _ p fun o q=>k _ _ (.inl rfl) q,⟨o,k _ _ (.inl rfl) e⟩,st⟩
theorem HOk.lt(x:HOk P w H h)(e:H a=some o):a<h.objs.size:=(x a o e).lt
theorem HOk.fresh(x:HOk P w H h)(e:h.objs.size≤a):H a=none:=by
 cases q:H a with
 | none=>rfl
 | some u=>exact absurd (Nat.lt_of_lt_of_le (x.lt q) e) (Nat.lt_irrefl _)
theorem HOk.kept(x:HOk P w H h)(k:∀b u,h.get? b=some u→h'.get? b=some u):HOk P w H h':=fun a o e=>
 (x a o e).stay (fun b u _ q=>k b u q) (fun _ q=>q) fun _ _ q=>q
theorem HOk.laid(x:HOk P w H h)(k:∀b u,h.get? b=some u→h'.get? b=some u)(hp:h.objs.size≤a)(new:X9 P w (upd H a o) h' a o):HOk P w (upd H a o) h':=fun b u e=>by
 have hn:=x.fresh hp
 by_cases hb:b=a
 ·subst hb;rw[Yg] at e;cases e;exact new
 ·rw[Zs hb] at e
  exact(x b u e).stay (fun c v _ q=>k c v q) (fun c q=>by rw[Zs (We q hn)];exact q) fun c xs q=>by rw[Zs (We q hn)];exact q
end
def Rd(H:Hp)(a:Addr)(u:HO):Prop:=H a=some u∨∃o,H a=some (.frz o u)
theorem Rd.ok{P:Program}{w:World}{H:Hp}{h:Heap}{a:Addr}{u:HO}(r:Rd H a u)(x:HOk P w H h):X9 P w H h a u:=by
 rcases r with r | ⟨o,r⟩
 ·exact x a u r
 ·obtain⟨_,q⟩:=x a _ r
  exact q
def Mut:Option HO→Prop
 | some (.lst _)=>True
 | some (.dK _)=>True
 | some (.dT _)=>True
 | some (.set _ _)=>True
 | some (.ins _ _ _)=>True
 | some (.ext _)=>True
 | _=>False
section
variable{P:Program}{w:World}{H:Hp}{h h':Heap}{x e:Addr}{o':HO}
theorem HOk.write(ok:HOk P w H h)(mu:Mut (H x))(he:e=x∨H e=some (.own x))(k:∀b u,b≠e→h.get? b=some u→h'.get? b=some u)(heo:∃u,h'.get? e=some u)
  (new:X9 P w (upd H x o') h' x o'):HOk P w (upd H x o') h':=fun b u q=>by
 have nown:∀c y,H c=some (.own y)→c≠x:=fun c y r z=>by subst z;rw[r] at mu;exact mu
 have ntup:∀c xs,H c=some (.tup xs)→c≠x:=fun c xs r z=>by subst z;rw[r] at mu;exact mu
 by_cases hb:b=x
 ·subst hb;rw[Yg] at q;cases q;exact new
 ·rw[Zs hb] at q
  by_cases hbe:b=e
  ·have q':H b=some (.own x):=by
    rcases he with z | z
    ·exact absurd (hbe.trans z) hb
    ·rw[hbe];exact z
   rw[q] at q';cases q'
   obtain⟨v,hv⟩:=heo
   exact⟨v,by rw[hbe];exact hv⟩
  ·refine(ok b u q).stay (fun c v hc r=>k c v ?_ r) (fun c r=>by rw[Zs (nown c b r)];exact r) fun c xs r=>by rw[Zs (ntup c xs r)];exact r
   rcases hc with rfl | hc
   ·exact hbe
   ·rintro rfl
    rcases he with z | z
    ·exact nown c b hc z
    ·rw[hc] at z;cases z;exact hb rfl
end
structure Un(fs ex:List Addr)(H H':Hp)(h h':Heap):Prop where
 keep:∀b o,h.get? b=some o→H b=none→b∉fs→b∉ex→h'.get? b=some o
 slot:∀b o,h.get? b=some o→H b=none→b∈fs→b∉ex→∃sl,h'.get? b=some {o with slots:=sl}
 free:∀b o,h.get? b=some o→H b=none→b∉ex→H' b=none
 there:∀b o,h.get? b=some o→b∉ex→∃o',h'.get? b=some o'
 tups:∀b xs,H b=some (.tup xs)→H' b=some (.tup xs)
 frzs:∀b o u,H b=some (.frz o u)→H' b=some (.frz o u)
 tbls:∀b ps,H b=some (.tbl ps)→∃more,H' b=some (.tbl (ps++more))
section
variable{fs fs' ex ex':List Addr}{H H1 H2:Hp}{h h1 h2 h':Heap}{a x e:Addr}{o:HO}
theorem Un.any(u:Un fs ex H H1 h h1){b:Addr}{ob:Obj}(q:h.get? b=some ob)(n:H b=none)(hx:b∉ex):∃sl,h1.get? b=some {ob with slots:=sl}:=by
 by_cases hb:b∈fs
 ·exact u.slot b ob q n hb hx
 ·exact⟨ob.slots,u.keep b ob q n hb hx⟩
theorem Un.trans(a:Un fs ex H H1 h h1)(b:Un fs ex H1 H2 h1 h2):Un fs ex H H2 h h2 where
 keep:=fun c ob q n hc hx=>b.keep c ob (a.keep c ob q n hc hx) (a.free c ob q n hx) hc hx
 slot:=fun c ob q n hc hx=>by
  obtain⟨sl,e1⟩:=a.slot c ob q n hc hx
  obtain⟨sl',e2⟩:=b.slot c _ e1 (a.free c ob q n hx) hc hx
  exact⟨sl',e2⟩
 free:=fun c ob q n hx=>by
  obtain⟨o',e1⟩:=a.there c ob q hx
  exact b.free c o' e1 (a.free c ob q n hx) hx
 there:=fun c ob q hx=>by
  obtain⟨o',e1⟩:=a.there c ob q hx
  exact b.there c o' e1 hx
 tups:=fun c xs q=>b.tups c xs (a.tups c xs q)
 frzs:=fun c ob xs q=>b.frzs c ob xs (a.frzs c ob xs q)
 tbls:=fun c ps q=>by
  obtain⟨m1,e1⟩:=a.tbls c ps q
  obtain⟨m2,e2⟩:=b.tbls c _ e1
  exact⟨m1++m2,by rw[e2,Array.append_assoc]⟩
theorem Un.kept(k:∀b u,h.get? b=some u→h'.get? b=some u):Un fs ex H H h h':=
 ⟨fun b ob q _ _ _=>k b ob q,fun b ob q _ _ _=>⟨ob.slots,k b ob q⟩,fun _ _ _ n _=>n,fun b ob q _=>⟨ob,k b ob q⟩,fun _ _ q=>q,fun _ _ _ q=>q,fun _ ps q=>⟨#[],by rw[q];simp⟩⟩
theorem Un.refl:Un fs ex H H h h:=Un.kept fun _ _ q=>q
theorem Un.laid(k:∀b u,h.get? b=some u→h'.get? b=some u)(hp:h.objs.size≤a)(hn:H a=none):Un fs ex H (upd H a o) h h' where
 keep:=fun b u q _ _ _=>k b u q
 slot:=fun b u q _ _ _=>⟨u.slots,k b u q⟩
 free:=fun b u q n _=>by rw[Zs (Nat.ne_of_lt (Nat.lt_of_lt_of_le (Heap.lt_size q) hp))];exact n
 there:=fun b u q _=>⟨u,k b u q⟩
 tups:=fun b xs q=>by rw[Zs (We q hn)];exact q
 frzs:=fun b u xs q=>by rw[Zs (We q hn)];exact q
 tbls:=fun b ps q=>⟨#[],by rw[Zs (We q hn),q];simp⟩
theorem Un.write(mu:Mut (H x))(he:e=x∨H e=some (.own x))(k:∀b u,b≠e→h.get? b=some u→h'.get? b=some u)(heo:∃u,h'.get? e=some u):Un fs ex H (upd H x o) h h':=by
 have hx:∀b,H b=none→b≠x:=fun b n z=>by subst z;rw[n] at mu;exact mu
 have hb:∀b,H b=none→b≠e:=fun b n z=>by
  subst z
  rcases he with r | r
  ·exact hx b n r
  ·rw[n] at r;cases r
 have hm:∀b u,H b=some u→¬Mut (some u)→b≠x:=fun b u q nm z=>by subst z;rw[q] at mu;exact nm mu
 refine⟨fun b u q n _ _=>k b u (hb b n) q,fun b u q n _ _=>⟨u.slots,k b u (hb b n) q⟩,fun b u q n _=>by rw[Zs (hx b n)];exact n,fun b u q _=>?_,
  fun b xs q=>by rw[Zs (hm b _ q fun z=>z)];exact q,fun b u xs q=>by rw[Zs (hm b _ q fun z=>z)];exact q,fun b ps q=>⟨#[],by rw[Zs (hm b _ q fun z=>z),q];simp⟩⟩
 by_cases hbe:b=e
 ·subst hbe;exact heo
 ·exact⟨u,k b u hbe q⟩
end
noncomputable def trk(h:Heap)(H:Hp):List Addr:=(List.range h.objs.size).filter fun a=>(H a).isSome
noncomputable def hidT(h:Heap)(H:Hp):Heap:=PySem.W.hideAll h (trk h H)
theorem B8(h:Heap)(H:Hp):(hidT h H).objs.size=h.objs.size:=PySem.W.hideAll_size _ _
theorem Z92{h:Heap}{H:Hp}{b:Addr}{o:Obj}(e:h.get? b=some o)(n:H b=none):(hidT h H).get? b=some o:=
 PySem.W.hideAll_get _ e fun hm=>by
  have q:(H b).isSome=true:=(List.mem_filter.mp hm).2
  rw[n] at q;simp at q
theorem Zm7{h:Heap}{H:Hp}{b:Addr}{o:Obj}(e:(hidT h H).get? b=some o):h.get? b=some o∧H b=none:=by
 have e':h.get? b=some o:=PySem.W.of_hideAll (trk h H) e
 refine⟨e',?_⟩
 cases q:H b with
 | none=>rfl
 | some x=>
  have hm:b∈trk h H:=List.mem_filter.mpr ⟨List.mem_range.mpr (Heap.lt_size e'),by simp[q]⟩
  have z:(hidT h H).get? b=none:=PySem.W.hideAll_none (trk h H) hm
  rw[z] at e;cases e
noncomputable def Zk7(g h:Heap)(L:Addr):List (Addr×Obj):=(List.range h.objs.size).filterMap fun a=>if a=L∨(g.get? a).isSome=true then none else(h.get? a).map fun o=>(a,o)
noncomputable def rest(g h:Heap)(L d:Addr):List (Addr×Obj):=(Zk7 g h L).filter fun p=>decide (p.1≠d)
structure Mod(K:PySem.W.Frag)(mg:Str→Option Value)(base:Heap):Prop where
 kin:K.In base
 glob:base.Ns mainGlobals mg
 blt:∃mb,base.Ns builtinsNs mb∧∀x:Str,x≠"__name__"→mb x=bootBuiltins x
 nolimit:base.NoLimit
structure Cx where
 prog:Program
 w:World
 K:PySem.W.Frag
 mg:Str→Option Value
 base:Heap
 A:Around
 N:List Str
 s₀:Shared
 H₀:Hp
 env:Env
 outer:List Env
 stack:List Env
 ex:List Addr
 fn:Str→Bool
 calm:Bool
 pn:List (Addr×Obj)
 xe:Value→Shared→Prop
noncomputable def frs(l:List Env):List Addr:=l.filterMap (·.frame)
noncomputable abbrev Cx.fs(X:Cx):List Addr:=frs X.outer
def Vis(sc:Scope)(x:Str):Prop:=sc.names.lookup x=some .local∨sc.names.lookup x=some .cell∨sc.names.lookup x=some .free
def Loc(sc:Scope)(x:Str):Prop:=sc.names.lookup x=some .local∨sc.names.lookup x=some .cell
def Look(env:Env)(h:Heap)(m:Str→Option Value)(x:Str)(u:Value):Prop:=
 (env.kindOf x=some .local∧m x=some u)∨((env.kindOf x=some .cell∨env.kindOf x=some .free)∧∃c,env.cells.lookup x=some c∧h.IsCell c (some u))
structure Cx.Ok(X:Cx):Prop where
 mod:Mod X.K X.mg X.base
 kind:X.env.scope.kind= .function
 glob:X.env.globals=mainGlobals
 blt:X.env.builtins=builtinsNs
 above:X.s₀.heap.objs.size≤X.env.locals
 inj:∀x y c,X.env.cells.lookup x=some c→X.env.cells.lookup y=some c→x=y
 has:∀x,(X.env.kindOf x=some .cell∨X.env.kindOf x=some .free)→∃c,X.env.cells.lookup x=some c
 cab:∀x c,X.fn x=true→X.env.cells.lookup x=some c→X.s₀.heap.objs.size≤c
 hd:X.calm=true→X.A.handled=none
 frames:X.A.frames=some X.stack
 stk:X.stack=X.outer∨(X.stack=X.env::X.outer∧X.env.frame=some X.env.locals)
 exf:∀b∈X.ex,b≠X.env.locals∧∀x c,X.env.cells.lookup x=some c→c≠b
 bs:∀b o,X.base.get? b=some o→X.s₀.heap.get? b=some o∧X.H₀ b=none
 bsz:X.base.objs.size≤X.s₀.heap.objs.size
 noex:∀b o,X.base.get? b=some o→b∉X.ex
 exfs:∀b∈X.ex,b∉X.fs
 funs:X.s₀.heap.FunFrames X.base X.outer
 frf:∀b∈X.fs,X.H₀ b=none
structure Inv(X:Cx)(pins:List (Addr×Obj))(σ:List (Option V))(H:Hp)(s:Shared):Prop where
 ok:X.Ok
 os:s.os=X.s₀.os
 bare:AllBare s.gens
 base:Un X.fs X.ex X.H₀ H X.s₀.heap s.heap
 loc:∃m,s.heap.Ns X.env.locals m∧∀(i:Nat) (x:Str) (v:V),X.N[i]?=some x→σ[i]?=some (some v)→Vis X.env.scope x→∃u,RelV v u∧Look X.env s.heap m x u
 cell:∀x c,X.env.cells.lookup x=some c→∃v,s.heap.IsCell c v
 free:H X.env.locals=none
 freeC:∀x c,X.env.cells.lookup x=some c→H c=none
 pin:∀p∈X.pn++pins,s.heap.get? p.1=some p.2∧H p.1=none∧p.1≠X.env.locals∧p.1∉X.fs∧∀v,p.2.data≠ .cell v
 hok:HOk X.prog X.w H s.heap
 len:σ.length=X.N.length
section
variable{X:Cx}{pins:List (Addr×Obj)}{σ:List (Option V)}{H H':Hp}{s:Shared}{h':Heap}
theorem Cx.Ok.nofr(ok:X.Ok){b:Addr}{o:Obj}(e:X.base.get? b=some o):b∉X.fs:=fun hb=>by
 have:=(ok.funs.mem hb).1
 rw[e] at this;cases this
theorem Inv.bs(I:Inv X pins σ H s):∀b o,X.base.get? b=some o→s.heap.get? b=some o∧H b=none:=fun b o e=>
 ⟨I.base.keep b o (I.ok.bs b o e).1 (I.ok.bs b o e).2 (I.ok.nofr e) (I.ok.noex b o e),I.base.free b o (I.ok.bs b o e).1 (I.ok.bs b o e).2 (I.ok.noex b o e)⟩
theorem Inv.bk(I:Inv X pins σ H s):∀b o,X.base.get? b=some o→s.heap.get? b=some o:=fun b o e=>(I.bs b o e).1
theorem Inv.mod(I:Inv X pins σ H s):Mod X.K X.mg X.base:=I.ok.mod
theorem Inv.kIn(I:Inv X pins σ H s):X.K.In s.heap:=I.ok.mod.kin.keeps I.bk
theorem Inv.lt(I:Inv X pins σ H s):X.env.locals<s.heap.objs.size:=by obtain⟨_,hn,_⟩:=I.loc;exact hn.lt
theorem Inv.sz(I:Inv X pins σ H s):X.s₀.heap.objs.size≤s.heap.objs.size:=Nat.le_trans I.ok.above (Nat.le_of_lt I.lt)
theorem Inv.nofs(I:Inv X pins σ H s){a:Addr}(h:s.heap.objs.size≤a):a∉X.fs:=fun hb=>by
 obtain⟨_,o,ho,_⟩:=I.ok.funs.mem hb
 exact absurd (Nat.lt_of_lt_of_le (Heap.lt_size ho) (Nat.le_trans I.sz h)) (Nat.lt_irrefl _)
theorem Inv.cne(I:Inv X pins σ H s):∀x c,X.env.cells.lookup x=some c→c≠X.env.locals:=fun x c e z=>by
 obtain⟨v,o,ho,hd⟩:=I.cell x c e
 obtain⟨m,⟨o',es,ep,ho',hd',_⟩,_⟩:=I.loc
 rw[z,ho'] at ho;cases ho;rw[hd'] at hd;cases hd
theorem Inv.funs(I:Inv X pins σ H s):s.heap.FunFrames X.base X.outer:=by
 have all:∀(l:List Env),(∀b∈frs l,b∈X.fs)→X.s₀.heap.FunFrames X.base l→s.heap.FunFrames X.base l:=by
  intro l
  induction l with
  | nil=>intro _ _;trivial
  | cons env r ih=>
   intro hs hl
   obtain⟨hk,⟨L,o,hf,hn,ho,hd⟩,hr⟩:=hl
   have hL:L∈X.fs:=hs L (by unfold frs;rw[List.filterMap_cons,hf];exact List.mem_cons_self)
   obtain⟨sl,e⟩:=I.base.slot L o ho (I.ok.frf L hL) hL fun z=>I.ok.exfs L z hL
   exact⟨hk,⟨L,_,hf,hn,e,hd⟩,ih (fun b hb=>hs b (by unfold frs;rw[List.filterMap_cons,hf];exact List.mem_cons_of_mem _ hb)) hr⟩
 exact all X.outer (fun _ hb=>hb) I.ok.funs
theorem Inv.stack(I:Inv X pins σ H s):s.heap.FunFrames X.base X.stack:=by
 rcases I.ok.stk with e | ⟨e,hf⟩
 ·rw[e];exact I.funs
 ·rw[e]
  obtain⟨m,hn,_⟩:=I.loc
  refine .cons (by rw[I.ok.kind];decide) hf hn ?_ I.funs
  exact Heap.get?_none_of_le (Nat.le_trans I.ok.bsz I.ok.above)
theorem Inv.stkSub(I:Inv X pins σ H s):∀b∈frs X.stack,b∈X.env.locals::X.fs:=fun b hb=>by
 rcases I.ok.stk with e | ⟨e,hf⟩
 ·rw[e] at hb;exact List.mem_cons_of_mem _ hb
 ·rw[e] at hb
  unfold frs at hb
  rw[List.filterMap_cons,hf] at hb
  exact hb
theorem Inv.stkFree(I:Inv X pins σ H s):∀b∈frs X.stack,H b=none:=fun b hb=>by
 rcases List.mem_cons.mp (I.stkSub b hb) with e | hb
 ·rw[e];exact I.free
 ·obtain⟨_,o,ho,_⟩:=I.ok.funs.mem hb
  exact I.base.free b o ho (I.ok.frf b hb) fun z=>I.ok.exfs b z hb
theorem Inv.step{g':Array GenState}{t':Nat}{d':Drawn}{ch:List Addr}(I:Inv X pins σ H s)
  (hch:∀b∈ch,(b∈X.ex∨X.s₀.heap.objs.size≤b)∧b≠X.env.locals∧(∀x c,X.env.cells.lookup x=some c→c≠b)∧∀p∈X.pn++pins,p.1≠b)
  (keep:∀b o,b≠X.env.locals→b∉X.fs→b∉ch→s.heap.get? b=some o→H b=none→h'.get? b=some o)
  (slot:∀b o,b≠X.env.locals→b∈X.fs→b∉ch→s.heap.get? b=some o→H b=none→∃sl,h'.get? b=some {o with slots:=sl}) (free:∀b o,b∉ch→s.heap.get? b=some o→H b=none→H' b=none)
  (there:∀b o,b∉ch→s.heap.get? b=some o→∃o',h'.get? b=some o')
  (tups:∀b xs,H b=some (.tup xs)→H' b=some (.tup xs)) (frzs:∀b o u,H b=some (.frz o u)→H' b=some (.frz o u)) (tbls:∀b ps,H b=some (.tbl ps)→∃more,H' b=some (.tbl (ps++more)))
  (ns:∀m,s.heap.Ns X.env.locals m→h'.Ns X.env.locals m) (hok:HOk X.prog X.w H' h') (hg:AllBare g'):
  Inv X pins σ H' {s with heap:=h',gens:=g',drawn:=d',toks:=t'}:=by
 have neL:∀b o,X.s₀.heap.get? b=some o→b≠X.env.locals:=fun b o e=>Nat.ne_of_lt (Nat.lt_of_lt_of_le (Heap.lt_size e) I.ok.above)
 have neC:∀b o,X.s₀.heap.get? b=some o→b∉X.ex→b∉ch:=fun b o e hx hb=>by
  rcases(hch b hb).1 with z | z
  ·exact hx z
  ·exact absurd (Nat.lt_of_lt_of_le (Heap.lt_size e) z) (Nat.lt_irrefl _)
 have cellK:∀x c,X.env.cells.lookup x=some c→∀v,s.heap.IsCell c v→h'.IsCell c v:=fun x c e v ⟨o,ho,hd⟩=>by
  have nch:c∉ch:=fun z=>(hch c z).2.2.1 x c e rfl
  by_cases hc:c∈X.fs
  ·obtain⟨sl,q⟩:=slot c o (I.cne x c e) hc nch ho (I.freeC x c e)
   exact⟨_,q,hd⟩
  ·exact⟨o,keep c o (I.cne x c e) hc nch ho (I.freeC x c e),hd⟩
 refine⟨I.ok,I.os,hg,⟨fun b o e n hb hx=>?_,fun b o e n hb hx=>?_,fun b o e n hx=>?_,fun b o e hx=>?_,fun b xs e=>tups b xs (I.base.tups b xs e),fun b o xs e=>frzs b o xs (I.base.frzs b o xs e),fun b ps e=>?_⟩,?_,fun x c e=>?_,?_,fun x c e=>?_,fun p hp=>?_,hok,I.len⟩
 ·exact keep b o (neL b o e) hb (neC b o e hx) (I.base.keep b o e n hb hx) (I.base.free b o e n hx)
 ·obtain⟨sl,e1⟩:=I.base.slot b o e n hb hx
  obtain⟨sl',e2⟩:=slot b _ (neL b o e) hb (neC b o e hx) e1 (I.base.free b o e n hx)
  exact⟨sl',e2⟩
 ·obtain⟨o',e1⟩:=I.base.there b o e hx
  exact free b o' (neC b o e hx) e1 (I.base.free b o e n hx)
 ·obtain⟨o',e1⟩:=I.base.there b o e hx
  exact there b o' (neC b o e hx) e1
 ·obtain⟨m1,e1⟩:=I.base.tbls b ps e
  obtain⟨m2,e2⟩:=tbls b _ e1
  exact⟨m1++m2,by rw[e2,Array.append_assoc]⟩
 ·obtain⟨m,hn,hl⟩:=I.loc
  refine⟨m,ns m hn,fun i x v e1 e2 e3=>?_⟩
  obtain⟨u,r,l⟩:=hl i x v e1 e2 e3
  refine⟨u,r,?_⟩
  rcases l with l | ⟨k,c,e,z⟩
  ·exact .inl l
  ·exact .inr ⟨k,c,e,cellK x c e _ z⟩
 ·obtain⟨v,z⟩:=I.cell x c e
  exact⟨v,cellK x c e v z⟩
 ·obtain⟨m,⟨o,_,_,ho,_⟩,_⟩:=I.loc
  exact free _ o (fun z=>(hch _ z).2.1 rfl) ho I.free
 ·obtain⟨v,o,ho,hd⟩:=I.cell x c e
  exact free c o (fun z=>(hch c z).2.2.1 x c e rfl) ho (I.freeC x c e)
 ·obtain⟨e,n,ne,nf,d⟩:=I.pin p hp
  have nch:p.1∉ch:=fun z=>(hch p.1 z).2.2.2 p hp rfl
  exact⟨keep p.1 p.2 ne nf nch e n,free p.1 p.2 nch e n,ne,nf,d⟩
theorem Inv.un{t':Nat}(I:Inv X pins σ H s)(u:Un X.fs [] H H' s.heap h')(hok:HOk X.prog X.w H' h'):Inv X pins σ H' {s with heap:=h',toks:=t'}:=by
 obtain⟨m,⟨o,es,ep,ho,r⟩,_⟩:=id I.loc
 obtain⟨sl,hL⟩:=u.any ho I.free (by simp)
 exact I.step (g':=s.gens) (d':=s.drawn) (ch:=[]) (fun _ z=>nomatch z) (fun b o _ hb _ e n=>u.keep b o e n hb (by simp)) (fun b o _ hb _ e n=>u.slot b o e n hb (by simp)) (fun b o _ e n=>u.free b o e n (by simp)) (fun b o _ e=>u.there b o e (by simp)) u.tups u.frzs u.tbls (fun m' hm=>by
  obtain⟨o',es',ep',ho',r'⟩:=hm
  rw[ho] at ho';cases ho'
  exact⟨_,es',ep',hL,r'⟩) hok I.bare
theorem Inv.call{g':Array GenState}{t':Nat}{d':Drawn}{ch:List Addr}(I:Inv X pins σ H s)(u:Un (frs X.stack) ch H H' s.heap h')(hok:HOk X.prog X.w H' h')(hg:AllBare g')
  (hch:∀b∈ch,(b∈X.ex∨X.s₀.heap.objs.size≤b)∧b≠X.env.locals∧(∀x c,X.env.cells.lookup x=some c→c≠b)∧∀p∈X.pn++pins,p.1≠b):
  Inv X pins σ H' {s with heap:=h',gens:=g',drawn:=d',toks:=t'}:=by
 obtain⟨m,⟨o,es,ep,ho,r⟩,_⟩:=id I.loc
 obtain⟨sl,hL⟩:=u.any ho I.free fun z=>(hch _ z).2.1 rfl
 exact I.step (ch:=ch) hch (fun b o hL hb hc e n=>u.keep b o e n (fun z=>(List.mem_cons.mp (I.stkSub b z)).elim hL hb) hc) (fun b o _ _ hc e n=>u.any e n hc) (fun b o hc e n=>u.free b o e n hc) (fun b o hc e=>u.there b o e hc) u.tups u.frzs u.tbls (fun m' hm=>by
  obtain⟨o',es',ep',ho',r'⟩:=hm
  rw[ho] at ho';cases ho'
  exact⟨_,es',ep',hL,r'⟩) hok hg
theorem Inv.turned{t':Nat}{it:Addr}(I:Inv X pins σ H s)(k:∀b o,b≠it→s.heap.get? b=some o→h'.get? b=some o)(hn:H it=none)(hL:it≠X.env.locals)
  (h1:it∈X.ex∨X.s₀.heap.objs.size≤it) (h2:∀x c,X.env.cells.lookup x=some c→c≠it) (h3:∀p∈X.pn++pins,p.1≠it):Inv X pins σ H {s with heap:=h',toks:=t'}:=by
 have nit:∀b u,H b=some u→b≠it:=fun b u e z=>by rw[z,hn] at e;cases e
 refine I.step (g':=s.gens) (d':=s.drawn) (ch:=[it]) (fun b hb=>?_) (fun b o _ _ hc e _=>k b o (fun z=>hc (by simp[z])) e) (fun b o _ _ hc e _=>⟨o.slots,k b o (fun z=>hc (by simp[z])) e⟩) (fun _ _ _ _ n=>n)
  (fun b o hc e=>⟨o,k b o (fun z=>hc (by simp[z])) e⟩) (fun _ _ e=>e) (fun _ _ _ e=>e) (fun b ps e=>⟨#[],by rw[e];simp⟩) (fun m hm=>?_) (fun b u e=>?_) I.bare
 ·have e:b=it:=by simpa using hb
  subst e
  exact⟨h1,hL,h2,h3⟩
 ·obtain⟨o,es,ep,ho,r⟩:=hm
  exact⟨o,es,ep,k _ o (Ne.symm hL) ho,r⟩
 ·refine(I.hok b u e).stay (fun c v hc q=>k c v ?_ q) (fun _ q=>q) fun _ _ q=>q
  rcases hc with z | z
  ·rw[z];exact nit b u e
  ·exact nit c _ z
theorem Inv.tok(I:Inv X pins σ H s)(t:Nat):Inv X pins σ H {s with toks:=t}:=I.un (h':=s.heap) (t':=t) Un.refl I.hok
theorem Inv.kept{t':Nat}(I:Inv X pins σ H s)(k:∀b u,s.heap.get? b=some u→h'.get? b=some u):Inv X pins σ H {s with heap:=h',toks:=t'}:=I.un (Un.kept k) (I.hok.kept k)
theorem Inv.laid{a:Addr}{o:HO}{t':Nat}(I:Inv X pins σ H s)(k:∀b u,s.heap.get? b=some u→h'.get? b=some u)(hp:s.heap.objs.size≤a)(new:X9 X.prog X.w (upd H a o) h' a o):
  Inv X pins σ (upd H a o) {s with heap:=h',toks:=t'}:=I.un (Un.laid k hp (I.hok.fresh hp)) (I.hok.laid k hp new)
theorem Inv.write{x e:Addr}{o:HO}{t':Nat}(I:Inv X pins σ H s)(mu:Mut (H x))(he:e=x∨H e=some (.own x))(k:∀b u,b≠e→s.heap.get? b=some u→h'.get? b=some u)(heo:∃u,h'.get? e=some u)
  (new:X9 X.prog X.w (upd H x o) h' x o):Inv X pins σ (upd H x o) {s with heap:=h',toks:=t'}:=I.un (Un.write mu he k heo) (I.hok.write mu he k heo new)
theorem Inv.pins_of{pins':List (Addr×Obj)}(I:Inv X pins σ H s)(h:∀p∈pins',s.heap.get? p.1=some p.2∧H p.1=none∧p.1≠X.env.locals∧p.1∉X.fs∧∀v,p.2.data≠ .cell v):Inv X pins' σ H s:=
 ⟨I.ok,I.os,I.bare,I.base,I.loc,I.cell,I.free,I.freeC,fun p hp=>(List.mem_append.mp hp).elim (fun z=>I.pin p (List.mem_append_left _ z)) (h p),I.hok,I.len⟩
theorem Fe{N:List Str}(hN:N.Nodup){i j:Nat}{x:Str}(a:N[i]?=some x)(b:N[j]?=some x):i=j:=by
 obtain⟨h1,e1⟩:=List.getElem?_eq_some_iff.mp a
 obtain⟨h2,e2⟩:=List.getElem?_eq_some_iff.mp b
 exact(List.getElem_inj hN).mp (e1.trans e2.symm)
theorem Q9{M:Model}{A:Around}{E:Value→Shared→Prop}{i:Nat}{x:Str}{v:V}{u:Value}{Q:Unit→Shared→Prop}(I:Inv X pins σ H s)(hN:X.N.Nodup)(hi:X.N[i]?=some x)(hx:Loc X.env.scope x)(r:RelV v u)
  (h:∀s',Inv X pins (σ.set i (some v)) H s'→(∃a,Heap.SameBut a s.heap s'.heap∧(a=X.env.locals∨X.env.cells.lookup x=some a))→Q () s') (hf:X.fn x=true∨X.env.scope.names.lookup x=some .local:=by first | exact .inl rfl | exact .inr rfl | assumption):wpAny M A (storeName X.env x u) Q E s:=by
 obtain⟨m,hn,hl⟩:=id I.loc
 have hcls:(X.env.scope.kind== .class || (X.env.scope.kind== .module&&X.env.locals !=X.env.globals))=false:=by rw[I.ok.kind];rfl
 have hiσ:i<σ.length:=by rw[I.len];exact(List.getElem?_eq_some_iff.mp hi).1
 have cne:=I.cne
 have tracked:∀{a:Addr} {h':Heap},(∃o,s.heap.get? a=some o∧H a=none)→Heap.SameBut a s.heap h'→HOk X.prog X.w H h':=fun{a h'} ha hs b ob e=>by
  obtain⟨_,_,hfree⟩:=ha
  refine(I.hok b ob e).stay (fun c w' hc q=>(hs.2 c ?_).trans q) (fun _ q=>q) fun _ _ q=>q
  rintro rfl
  rcases hc with rfl | hc
  ·rw[hfree] at e;cases e
  ·rw[hfree] at hc;cases hc
 rcases hx with hk | hk
 ·refine wpAny_storeName_local hk hn (fun h' hn' hs=>?_) hcls
  obtain⟨oL,_,_,hoL,_⟩:=id hn
  refine h _ ⟨I.ok,I.os,I.bare,⟨fun b o e n hb hx=>?_,fun b o e n hb hx=>?_,I.base.free,fun b o e hx=>?_,I.base.tups,I.base.frzs,I.base.tbls⟩,⟨_,hn',fun j y v' e1 e2 e3=>?_⟩,fun y c e=>?_,I.free,I.freeC,fun p hp=>?_,tracked ⟨oL,hoL,I.free⟩ hs,by simpa using I.len⟩ ⟨_,hs,.inl rfl⟩
  ·exact(hs.2 b (Nat.ne_of_lt (Nat.lt_of_lt_of_le (Heap.lt_size e) I.ok.above))).trans (I.base.keep b o e n hb hx)
  ·obtain⟨sl,e1⟩:=I.base.slot b o e n hb hx
   exact⟨sl,(hs.2 b (Nat.ne_of_lt (Nat.lt_of_lt_of_le (Heap.lt_size e) I.ok.above))).trans e1⟩
  ·obtain⟨o',e1⟩:=I.base.there b o e hx
   exact⟨o',(hs.2 b (Nat.ne_of_lt (Nat.lt_of_lt_of_le (Heap.lt_size e) I.ok.above))).trans e1⟩
  ·by_cases hj:j=i
   ·subst hj
    rw[hi] at e1;cases e1
    rw[List.getElem?_set_self hiσ] at e2
    cases e2
    exact⟨u,r,.inl ⟨hk,by simp⟩⟩
   ·rw[List.getElem?_set_ne (Ne.symm hj)] at e2
    obtain⟨u',r',q⟩:=hl j y v' e1 e2 e3
    refine⟨u',r',?_⟩
    rcases q with⟨k,e⟩ | ⟨k,c,e,z⟩
    ·refine .inl ⟨k,?_⟩
     have:y≠x:=fun e=>hj (Fe hN e1 (e ▸ hi))
     simp[this,e]
    ·exact .inr ⟨k,c,e,z.sameBut hs (cne y c e)⟩
  ·obtain⟨w',z⟩:=I.cell y c e
   exact⟨w',z.sameBut hs (cne y c e)⟩
  ·obtain⟨e,n,ne,nf,d⟩:=I.pin p hp
   exact⟨(hs.2 p.1 ne).trans e,n,ne,nf,d⟩
 ·have hfn:X.fn x=true:=by
   rcases hf with z | z
   ·exact z
   ·rw[z] at hk;cases hk
  obtain⟨c,hc⟩:=I.ok.has x (.inl hk)
  obtain⟨w',z⟩:=I.cell x c hc
  refine wpAny_storeName_cell I.ok.kind hk hc z (fun h' hc' hs=>?_)
  obtain⟨oc,hoc,hocd⟩:=id z
  refine h {s with heap:=h'} ⟨I.ok,I.os,I.bare,⟨fun b o e n hb hx=>?_,fun b o e n hb hx=>?_,I.base.free,fun b o e hx=>?_,I.base.tups,I.base.frzs,I.base.tbls⟩,⟨m,hn.sameBut hs (Ne.symm (cne x c hc)),fun j y v' e1 e2 e3=>?_⟩,fun y c' e=>?_,I.free,I.freeC,fun p hp=>?_,tracked ⟨oc,hoc,I.freeC x c hc⟩ hs,by simpa using I.len⟩ ⟨c,hs,.inr hc⟩
  ·exact(hs.2 b (Nat.ne_of_lt (Nat.lt_of_lt_of_le (Heap.lt_size e) (I.ok.cab x c hfn hc)))).trans (I.base.keep b o e n hb hx)
  ·obtain⟨sl,e1⟩:=I.base.slot b o e n hb hx
   exact⟨sl,(hs.2 b (Nat.ne_of_lt (Nat.lt_of_lt_of_le (Heap.lt_size e) (I.ok.cab x c hfn hc)))).trans e1⟩
  ·obtain⟨o',e1⟩:=I.base.there b o e hx
   exact⟨o',(hs.2 b (Nat.ne_of_lt (Nat.lt_of_lt_of_le (Heap.lt_size e) (I.ok.cab x c hfn hc)))).trans e1⟩
  ·by_cases hj:j=i
   ·subst hj
    rw[hi] at e1;cases e1
    rw[List.getElem?_set_self hiσ] at e2
    cases e2
    exact⟨u,r,.inr ⟨.inl hk,c,hc,hc'⟩⟩
   ·rw[List.getElem?_set_ne (Ne.symm hj)] at e2
    obtain⟨u',r',q⟩:=hl j y v' e1 e2 e3
    refine⟨u',r',?_⟩
    rcases q with q | ⟨k,c',e,z'⟩
    ·exact .inl q
    ·refine .inr ⟨k,c',e,z'.sameBut hs ?_⟩
     rintro rfl
     exact hj (Fe hN e1 (I.ok.inj _ _ _ e hc ▸ hi))
  ·by_cases hcc:c'=c
   ·subst hcc;exact⟨_,hc'⟩
   ·obtain⟨w2,z2⟩:=I.cell y c' e
    exact⟨w2,z2.sameBut hs hcc⟩
  ·obtain⟨e,n,ne,nf,d⟩:=I.pin p hp
   refine⟨(hs.2 p.1 ?_).trans e,n,ne,nf,d⟩
   intro q
   rw[q,hoc] at e
   have q':oc=p.2:=Option.some.inj e
   exact d w' (by rw[←q'];exact hocd)
theorem Zg2{M:Model}{A:Around}{E:Value→Shared→Prop}{i:Nat}{x:Str}{v:V}{u:Value}{Q:Unit→Shared→Prop}(I:Inv X pins σ H s)(hN:X.N.Nodup)(hi:X.N[i]?=some x)(hx:Loc X.env.scope x)(r:RelV v u)
  (h:∀s',Inv X pins (σ.set i (some v)) H s'→Q () s') (hf:X.fn x=true∨X.env.scope.names.lookup x=some .local:=by first | exact .inl rfl | exact .inr rfl | assumption):wpAny M A (storeName X.env x u) Q E s:=
 Q9 I hN hi hx r (fun s' I' _=>h s' I') hf
theorem Inv.call'{s':Shared}{ch:List Addr}(I:Inv X pins σ H s)(ho:s'.os=s.os)(u:Un (frs X.stack) ch H H' s.heap s'.heap)(hok:HOk X.prog X.w H' s'.heap)(hg:AllBare s'.gens)
  (hch:∀b∈ch,(b∈X.ex∨X.s₀.heap.objs.size≤b)∧b≠X.env.locals∧(∀x c,X.env.cells.lookup x=some c→c≠b)∧∀p∈X.pn++pins,p.1≠b):Inv X pins σ H' s':=by
 obtain⟨h',g',d',t',o'⟩:=s'
 have e:o'=s.os:=ho
 subst e
 exact I.call (g':=g') (t':=t') (d':=d') u hok hg hch
end
abbrev XK:=Value→Option Addr→Hp→Prop
noncomputable abbrev St:=List (Option V)
abbrev VK:=V→Hp→Prop
abbrev TE:=St→Hp→VK→Prop
abbrev TT:=St→Hp→(Bool→Hp→Prop)→Prop
abbrev TA:=St→Hp→(List V→Hp→Prop)→Prop
structure Ends where
 nx:St→Hp→Prop
 rt:VK
 bk:St→Hp→Prop:=fun _ _=>False
 ct:St→Hp→Prop:=fun _ _=>False
abbrev TS:=Ends→St→Hp→Prop
def EP(X:Cx)(pins:List (Addr×Obj))(σ:St)(Q:VK)(u:Value)(s':Shared):Prop:=∃v H',Inv X pins σ H' s'∧RelV v u∧Q v H'
def TP(X:Cx)(pins:List (Addr×Obj))(σ:St)(Q:Bool→Hp→Prop)(b:Bool)(s':Shared):Prop:=∃H',Inv X pins σ H' s'∧Q b H'
def AP(X:Cx)(pins:List (Addr×Obj))(σ:St)(Q:List V→Hp→Prop)(us:List Value)(s':Shared):Prop:=∃vs H',Inv X pins σ H' s'∧Vals vs us∧Q vs H'
def SP(X:Cx)(pins:List (Addr×Obj))(D:Ends)(f:Flow)(s':Shared):Prop:=
 match f with
 | .next=>∃σ' H',Inv X pins σ' H' s'∧D.nx σ' H'
 | .brk=>∃σ' H',Inv X pins σ' H' s'∧D.bk σ' H'
 | .cont=>∃σ' H',Inv X pins σ' H' s'∧D.ct σ' H'
 | .ret u=>∃v σ' H',Inv X pins σ' H' s'∧RelV v u∧D.rt v H'
def PE(X:Cx)(e:Expr)(t:TE):Prop:=
 ∀(pins:List (Addr×Obj)) (s:Shared) (σ:St) (H:Hp) (Q:VK),Inv X pins σ H s→t σ H Q→wpAny (model X.prog X.w) X.A (eval e X.env) (EP X pins σ Q) X.xe s
def PT(X:Cx)(e:Expr)(t:TT):Prop:=
 ∀(pins:List (Addr×Obj)) (s:Shared) (σ:St) (H:Hp) (Q:Bool→Hp→Prop),Inv X pins σ H s→t σ H Q→wpAny (model X.prog X.w) X.A (isTrue e X.env (eval e X.env)) (TP X pins σ Q) X.xe s
def PW(X:Cx)(e:Expr)(t:TT):Prop:=
 ∀(whole:Sem Value) (pins:List (Addr×Obj)) (s:Shared) (σ:St) (H:Hp) (Q:Bool→Hp→Prop),Inv X pins σ H s→t σ H Q→wpAny (model X.prog X.w) X.A (isTrue e X.env whole) (TP X pins σ Q) X.xe s
theorem PW.pt{X:Cx}{e:Expr}{t:TT}(h:PW X e t):PT X e t:=h _
def PA(X:Cx)(es:List Expr)(t:TA):Prop:=
 ∀(pos:Pos) (pins:List (Addr×Obj)) (s:Shared) (σ:St) (H:Hp) (Q:List V→Hp→Prop),Inv X pins σ H s→t σ H Q→wpAny (model X.prog X.w) X.A (spliced (backTo pos (starEach es X.env))) (AP X pins σ Q) X.xe s
def PS(X:Cx)(st:Stmt)(t:TS):Prop:=
 ∀(pins:List (Addr×Obj)) (s:Shared) (σ:St) (H:Hp) (D:Ends),Inv X pins σ H s→t D σ H→wpAny (model X.prog X.w) X.A (exec st X.env) (SP X pins D) X.xe s
def PSs(X:Cx)(st:List Stmt)(t:TS):Prop:=
 ∀(pins:List (Addr×Obj)) (s:Shared) (σ:St) (H:Hp) (D:Ends),Inv X pins σ H s→t D σ H→wpAny (model X.prog X.w) X.A (execs st X.env) (SP X pins D) X.xe s
theorem thn{α:Type}{t:Sem α}{Q Q':α→Shared→Prop}{M:Model}{A:Around}{E:Value→Shared→Prop}{s:Shared}(h:wpAny M A t Q E s)(hQ:∀a s,Q a s→Q' a s):wpAny M A t Q' E s:=wpAny_mono h hQ fun _ _ x=>x
section
variable{X:Cx}
theorem bin{a b:Expr}{ta tb:TE}(ha:PE X a ta)(hb:PE X b tb){pins:List (Addr×Obj)}{s:Shared}{σ:St}{H:Hp}{R:V→V→Hp→Prop}(I:Inv X pins σ H s)(h:ta σ H fun x H1=>tb σ H1 fun y H2=>R x y H2)
  {α:Type} {Q:α→Shared→Prop} {f:Value→Value→Sem α}
  (hf:∀v u s2 x y H2,Inv X pins σ H2 s2→RelV x v→RelV y u→R x y H2→wpAny (model X.prog X.w) X.A (f v u) Q X.xe s2):
  wpAny (model X.prog X.w) X.A (eval a X.env) (fun v s₁=>wpAny (model X.prog X.w) X.A (eval b X.env) (fun u s₂=>wpAny (model X.prog X.w) X.A (f v u) Q X.xe s₂) X.xe s₁) X.xe s:=by
 refine thn (ha pins s σ H _ I h) fun v s1 zz2=>?_
 obtain⟨x,H1,I1,r1,q1⟩:=zz2
 refine thn (hb pins s1 σ H1 _ I1 q1) fun u s2 zz3=>?_
 obtain⟨y,H2,I2,r2,q2⟩:=zz3
 exact hf v u s2 x y H2 I2 r1 r2 q2
def tVar(i:Nat):TE:=fun σ H Q=>∃v,σ[i]?=some (some v)∧Q v H
def tC(v:V):TE:=fun _ H Q=>Q v H
theorem Zz5{i:Nat}{x:Str}{pos:Pos}(hN:X.N[i]?=some x)(hv:Vis X.env.scope x)(hd:(x==("__debug__":Str))=false:=by decide)(hcd:(x==("__classdict__":Str))=false:=by decide):PE X (.Name x pos) (tVar i):=by
 intro pins s σ H Q I h
 obtain⟨v,e,h⟩:=h
 obtain⟨m,hn,hl⟩:=I.loc
 obtain⟨u,r,l⟩:=hl i x v hN e hv
 have fin:EP X pins σ Q u s:=⟨v,H,I,r,h⟩
 rcases l with⟨hk,hm⟩ | ⟨hk,c,hc,hcell⟩
 ·exact wpAny_Name (wpAny_loadName_local I.ok.kind hk hn hm fin) hd
 ·rcases hk with hk | hk
  ·exact wpAny_Name (wpAny_loadName_cell I.ok.kind hk hc hcell fin) hd
  ·exact wpAny_Name (wpAny_loadName_free I.ok.kind hk hc hcell fin hcd) hd
theorem Zv6{i j pos}:PE X (.Constant (.int i) j pos) (tC (.int i)):=fun _ _ _ H _ I h=>wpAny_Constant_int ⟨.int i,H,I.tok _,⟨_,rfl⟩,h⟩
theorem Y18{b j pos}:PE X (.Constant (.bool b) j pos) (tC (.bl b)):=fun _ _ _ H _ I h=>Constant_bool ⟨.bl b,H,I,rfl,h⟩
theorem Zy2{j pos}:PE X (.Constant .none j pos) (tC .non):=fun _ _ _ H _ I h=>Constant_none ⟨.non,H,I,rfl,h⟩
theorem Z23{x j pos}:PE X (.Constant (.str x) j pos) (tC (.str x)):=fun _ _ _ H _ I h=>Calls.Constant_str ⟨.str x,H,I.tok _,⟨_,rfl⟩,h⟩
def Gl(X:Cx)(x:Str):Prop:=X.env.kindOf x=some .globalImplicit
theorem Gc{E:Value→Shared→Prop}{pins:List (Addr×Obj)}{s:Shared}{σ:St}{H:Hp}{x:Str}{u:Value}{pos:Pos}{Q:Value→Shared→Prop}(I:Inv X pins σ H s)(hg:Gl X x)(hm:X.mg x=some u)(h:Q u s)
  (hd:(x==("__debug__":Str))=false:=by decide):wpAny (model X.prog X.w) X.A (eval (.Name x pos) X.env) Q E s:=
 Calls.Name_function_global I.ok.kind hg (Calls.loadGlobal_global (by rw[I.ok.glob];exact I.mod.glob.keeps I.bk) hm h) hd
theorem Q3{E:Value→Shared→Prop}{pins:List (Addr×Obj)}{s:Shared}{σ:St}{H:Hp}{x:Str}{u:Value}{pos:Pos}{Q:Value→Shared→Prop}(I:Inv X pins σ H s)(hg:Gl X x)(hm:X.mg x=none)(hv:bootBuiltins x=some u)(h:Q u s)
  (hn:x≠"__name__":=by decide) (hd:(x==("__debug__":Str))=false:=by decide):wpAny (model X.prog X.w) X.A (eval (.Name x pos) X.env) Q E s:=by
 obtain⟨mb,h1,h2⟩:=I.mod.blt
 exact Calls.Name_function_global I.ok.kind hg (Calls.loadGlobal_builtin (by rw[I.ok.glob];exact I.mod.glob.keeps I.bk) hm (by rw[I.ok.blt];exact h1.keeps I.bk) ((h2 x hn).trans hv) h) hd
theorem Zk6{x:Str}{v:V}{u:Value}{pos:Pos}(hg:Gl X x)(hm:X.mg x=some u)(r:RelV v u)(hd:(x==("__debug__":Str))=false:=by decide):PE X (.Name x pos) (tC v):=
 fun _ _ _ H _ I h=>Gc I hg hm ⟨v,H,I,r,h⟩ hd
theorem Zs3{x:Str}{v:V}{u:Value}{pos:Pos}(hg:Gl X x)(hm:X.mg x=none)(hv:bootBuiltins x=some u)(r:RelV v u)(hn:x≠"__name__":=by decide)(hd:(x==("__debug__":Str))=false:=by decide):PE X (.Name x pos) (tC v):=
 fun _ _ _ H _ I h=>Q3 I hg hm hv ⟨v,H,I,r,h⟩ hn hd
variable{a b:Expr}{ta tb:TE}{pos:Pos}
variable{tA tB':TT}{rest:List Expr}
def tAnd(t u:TT):TT:=fun σ H Q=>t σ H fun c H1=>if c=true then u σ H1 Q else Q false H1
def tOr(t u:TT):TT:=fun σ H Q=>t σ H fun c H1=>if c=true then Q true H1 else u σ H1 Q
def tNot(t:TT):TT:=fun σ H Q=>t σ H fun c H1=>Q (!c) H1
theorem Zq9(ha:PT X a tA):PW X (.BoolOp .And [a] pos) tA:=by
 intro wh pins s σ H Q I h
 refine isTrue_and (thn (ha pins s σ H Q I h) fun c s1 e=>?_)
 cases c with
 | true=>exact isTrue_and_nil e
 | false=>exact e
theorem Zt6(ha:PT X a tA):PW X (.BoolOp .Or [a] pos) tA:=by
 intro wh pins s σ H Q I h
 refine isTrue_or (thn (ha pins s σ H Q I h) fun c s1 e=>?_)
 cases c with
 | false=>exact isTrue_or_nil e
 | true=>exact e
theorem Zz7(ha:PT X a tA)(hb:PW X (.BoolOp .And (b::rest) pos) tB'):PW X (.BoolOp .And (a::b::rest) pos) (tAnd tA tB'):=by
 intro wh pins s σ H Q I h
 refine isTrue_and (thn (ha pins s σ H _ I h) fun c s1 zz4=>?_)
 obtain⟨H1,I1,q1⟩:=zz4
 cases c with
 | true=>exact hb wh pins s1 σ H1 Q I1 q1
 | false=>exact⟨H1,I1,q1⟩
theorem Y19(ha:PT X a tA)(hb:PW X (.BoolOp .Or (b::rest) pos) tB'):PW X (.BoolOp .Or (a::b::rest) pos) (tOr tA tB'):=by
 intro wh pins s σ H Q I h
 refine isTrue_or (thn (ha pins s σ H _ I h) fun c s1 zz5=>?_)
 obtain⟨H1,I1,q1⟩:=zz5
 cases c with
 | true=>exact⟨H1,I1,q1⟩
 | false=>exact hb wh pins s1 σ H1 Q I1 q1
theorem Zv5(ha:PT X a tA):PT X (.UnaryOp .Not a pos) (tNot tA):=by
 intro pins s σ H Q I h
 exact isTrue_not (ha pins s σ H (fun c H1=>Q (!c) H1) I h)
theorem Zu5{op}{t:TE}(h:PE X a t):PE X (.BoolOp op [a] pos) t:=fun pins s σ H Q I hw=>BoolOp_one (h pins s σ H Q I hw)
end
def SqL(K:PySem.W.Frag)(H:Hp)(a:Addr)(xs:List V):Prop:=
 Rd H a (.lst xs)∨
  ∃(o:Obj) (its:Array Value) (n:Nat),K.lookup a=some o∧o.cls= .type "list"∧o.dict=none∧o.data= .seq its n∧its.size≤sizeLine∧Vals xs its.toList
def SqT(K:PySem.W.Frag)(H:Hp)(a:Addr)(xs:List V):Prop:=
 Rd H a (.tup xs)∨
  ∃(o:Obj) (its:Array Value) (n:Nat),K.lookup a=some o∧o.cls= .type "tuple"∧o.data= .seq its n∧its.size≤sizeLine∧Vals xs its.toList
noncomputable def absV:Value→Option V
 | .none=>some .non
 | .bool b=>some (.bl b)
 | .int i _=>some (.int i)
 | .str x _=>some (.str x)
 | .bytes b _=>some (.byt b)
 | .float b _=>some (.flt b)
 | .ref a=>some (.ref a)
 | .type n=>some (.ty n)
 | _=>none
theorem RelV.abs{x:V}{u:Value}(r:RelV x u):absV u=some x:=by
 cases x with
 | non=>cases r;rfl
 | bl _=>cases r;rfl
 | int _=>obtain⟨t,rfl⟩:=r;rfl
 | str _=>obtain⟨t,rfl⟩:=r;rfl
 | byt _=>obtain⟨t,rfl⟩:=r;rfl
 | flt _=>obtain⟨t,rfl⟩:=r;rfl
 | ref _=>cases r;rfl
 | ty _=>cases r;rfl
theorem RelV.inj{x y:V}{u:Value}(r:RelV x u)(q:RelV y u):x=y:=Option.some.inj (r.abs.symm.trans q.abs)
theorem Vals.inj:∀{xs ys:List V} {us:List Value},Vals xs us→Vals ys us→xs=ys
 | _,_,_,.nil,.nil=>rfl
 | _,_,_,.cons r t,.cons r' t'=>by rw[r.inj r',Vals.inj t t']
section
variable{X:Cx}{pins:List (Addr×Obj)}{σ:St}{H:Hp}{s:Shared}{a:Addr}{xs ys:List V}
theorem SqT.of{K:PySem.W.Frag}(h:H a=some (.tup xs)):SqT K H a xs:= .inl (.inl h)
theorem Inv.list(I:Inv X pins σ H s)(h:SqL X.K H a xs):∃its:List Value,Vals xs its∧PlainL s.heap a its.toArray∧xs.length≤sizeLine:=by
 rcases h with h | ⟨o,its,n,hk,hc,hd,hs,hz,r⟩
 ·obtain⟨z,its,n,r,e⟩:=h.ok I.hok
  exact⟨its,r,⟨_,n,e,rfl,rfl,rfl⟩,z⟩
 ·refine⟨its.toList,r,⟨o,n,I.kIn a o hk,hc,hd,by simpa using hs⟩,?_⟩
  have e:=r.length
  simp only[Array.length_toList] at e
  omega
theorem Inv.tuple(I:Inv X pins σ H s)(h:SqT X.K H a xs):∃its:List Value,Vals xs its∧IsTup s.heap a its.toArray∧xs.length≤sizeLine:=by
 rcases h with h | ⟨o,its,n,hk,hc,hs,hz,r⟩
 ·obtain⟨z,its,r,p⟩:=h.ok I.hok
  exact⟨its,r,p,z⟩
 ·refine⟨its.toList,r,⟨o,I.kIn a o hk,hc,n,by simpa using hs⟩,?_⟩
  have e:=r.length
  simp only[Array.length_toList] at e
  omega
theorem Inv.list_inj(I:Inv X pins σ H s)(h:SqL X.K H a xs)(h':SqL X.K H a ys):xs=ys:=by
 obtain⟨its,r,⟨o,n,e,_,_,d⟩,_⟩:=I.list h
 obtain⟨its',r',⟨o',n',e',_,_,d'⟩,_⟩:=I.list h'
 rw[e] at e';cases e'
 rw[d] at d'
 injection d' with d1 _
 have:its=its':=by simpa using congrArg Array.toList d1
 subst this
 exact r.inj r'
theorem Inv.tuple_inj(I:Inv X pins σ H s)(h:SqT X.K H a xs)(h':SqT X.K H a ys):xs=ys:=by
 obtain⟨its,r,⟨o,e,_,n,d⟩,_⟩:=I.tuple h
 obtain⟨its',r',⟨o',e',_,n',d'⟩,_⟩:=I.tuple h'
 rw[e] at e';cases e'
 rw[d] at d'
 injection d' with d1 _
 have:its=its':=by simpa using congrArg Array.toList d1
 subst this
 exact r.inj r'
end
abbrev Cx.wish(X:Cx)(E:Value→Shared→Prop):Cx:={X with xe:=E}
noncomputable abbrev Cx.nox(X:Cx):Cx:=X.wish fun _ _=>False
theorem Cx.Ok.wish{X:Cx}(ok:X.Ok)(E:Value→Shared→Prop):(X.wish E).Ok:=
 ⟨ok.mod,ok.kind,ok.glob,ok.blt,ok.above,ok.inj,ok.has,ok.cab,ok.hd,ok.frames,ok.stk,ok.exf,ok.bs,ok.bsz,ok.noex,ok.exfs,ok.funs,ok.frf⟩
theorem Cx.Ok.unwish{X:Cx}{E:Value→Shared→Prop}(ok:(X.wish E).Ok):X.Ok:=
 ⟨ok.mod,ok.kind,ok.glob,ok.blt,ok.above,ok.inj,ok.has,ok.cab,ok.hd,ok.frames,ok.stk,ok.exf,ok.bs,ok.bsz,ok.noex,ok.exfs,ok.funs,ok.frf⟩
section
variable{X:Cx}{pins:List (Addr×Obj)}{σ:St}{H:Hp}{s:Shared}{E:Value→Shared→Prop}
theorem Inv.wish(I:Inv X pins σ H s)(E:Value→Shared→Prop):Inv (X.wish E) pins σ H s:=⟨I.ok.wish E,I.os,I.bare,I.base,I.loc,I.cell,I.free,I.freeC,I.pin,I.hok,I.len⟩
theorem Inv.unwish(I:Inv (X.wish E) pins σ H s):Inv X pins σ H s:=⟨I.ok.unwish,I.os,I.bare,I.base,I.loc,I.cell,I.free,I.freeC,I.pin,I.hok,I.len⟩
theorem SP.unwish{D:Ends}{f:Flow}{s':Shared}(h:SP (X.wish E) pins D f s'):SP X pins D f s':=by
 cases f with
 | next=>obtain⟨σ',H',I,q⟩:=h;exact⟨σ',H',I.unwish,q⟩
 | brk=>obtain⟨σ',H',I,q⟩:=h;exact⟨σ',H',I.unwish,q⟩
 | cont=>obtain⟨σ',H',I,q⟩:=h;exact⟨σ',H',I.unwish,q⟩
 | ret u=>obtain⟨v,σ',H',I,r,q⟩:=h;exact⟨v,σ',H',I.unwish,r,q⟩
theorem PSs.nox{st:List Stmt}{t:TS}(h:PSs X.nox st t):PSs X st t:=fun pins s σ H D I hw=>
 wpAny_mono (h pins s σ H D (I.wish _) hw) (fun _ _ q=>q.unwish) fun _ _ z=>False.elim z
end
section
variable{X:Cx}{st:Stmt}{rest:List Stmt}{t u:TS}{e:Expr}{te:TE}{pos:Pos}
def Y26:TS:=fun D σ H=>D.nx σ H
def tSeq(t u:TS):TS:=fun D σ H=>t {D with nx:=u D} σ H
theorem Zp3:PSs X [] Y26:=fun _ _ σ H _ I h=>wpAny_execs_nil ⟨σ,H,I,h⟩
theorem Z95(h1:PS X st t)(h2:PSs X rest u):PSs X (st::rest) (tSeq t u):=by
 intro pins s σ H D I h
 refine wpAny_execs_cons (thn (h1 pins s σ H {D with nx:=u D} I h) fun f s1 q=>?_)
 cases f with
 | next=>
  obtain⟨σ',H',I',q⟩:=q
  exact h2 pins s1 σ' H' D I' q
 | ret v=>exact q
 | brk=>exact q
 | cont=>exact q
theorem Inv.quiet{pins:List (Addr×Obj)}{σ:St}{H:Hp}{s:Shared}(I:Inv X pins σ H s):interactive X.env=false:=by simp[interactive,I.ok.kind]
def Y22(te:TE):TS:=fun D σ H=>te σ H fun _ H1=>D.nx σ H1
theorem Zm9(he:PE X e te)(hs:swapsWith e none pos.line X.env=pure false:=by rfl):PS X (.Expr e pos) (Y22 te):=by
 intro pins s σ H D I h
 exact wpAny_Expr_any (thn (he pins s σ H _ I h) fun v s1 zz6=>by obtain⟨x,H1,I1,r1,q1⟩:=zz6;exact⟨σ,H1,I1,q1⟩) I.quiet hs
def tRet(te:TE):TS:=fun D σ H=>te σ H D.rt
theorem Y06(he:PE X e te):PS X (.Return (some e) pos) (tRet te):=by
 intro pins s σ H D I h
 exact wpAny_Return_some (thn (he pins s σ H _ I h) fun v s1 zz7=>by obtain⟨x,H1,I1,r1,q1⟩:=zz7;exact⟨x,σ,H1,I1,r1,q1⟩)
def tIfS(c:TT)(t u:TS):TS:=fun D σ H=>c σ H fun b H1=>if b=true then t D σ H1 else u D σ H1
theorem Y23{c:Expr}{a b:List Stmt}{tc:TT}(hc:PT X c tc)(ha:PSs X a t)(hb:PSs X b u):PS X (.If c a b pos) (tIfS tc t u):=by
 intro pins s σ H D I h
 refine wpAny_If (thn (hc pins s σ H _ I h) fun d s1 zz8=>?_)
 obtain⟨H1,I1,q1⟩:=zz8
 cases d with
 | true=>exact ha pins s1 σ H1 D I1 q1
 | false=>exact hb pins s1 σ H1 D I1 q1
end
abbrev TG:=V→St→Hp→(St→Hp→Prop)→Prop
abbrev TGs:=List V→St→Hp→(St→Hp→Prop)→Prop
def PG(X:Cx)(target:Expr)(t:TG):Prop:=
 ∀(pins:List (Addr×Obj)) (s:Shared) (σ:St) (H:Hp) (v:V) (u:Value) (Q:St→Hp→Prop),Inv X pins σ H s→RelV v u→t v σ H Q→
  wpAny (model X.prog X.w) X.A (assign target X.env u) (fun _ s'=>∃σ' H',Inv X pins σ' H' s'∧Q σ' H') X.xe s
def PGs(X:Cx)(ts:List Expr)(t:TGs):Prop:=
 ∀(pins:List (Addr×Obj)) (s:Shared) (σ:St) (H:Hp) (vs:List V) (us:List Value) (Q:St→Hp→Prop),Inv X pins σ H s→Vals vs us→t vs σ H Q→
  wpAny (model X.prog X.w) X.A (assignInOrder ((assignEach ts X.env).map (·.2)) us) (fun _ s'=>∃σ' H',Inv X pins σ' H' s'∧Q σ' H') X.xe s
abbrev TSet:=V→V→V→Hp→(Hp→Prop)→Prop
def PSet(X:Cx)(t:TSet):Prop:=
 ∀(pins:List (Addr×Obj)) (s:Shared) (σ:St) (H:Hp) (o i v:V) (ov iv u:Value) (Q:Hp→Prop),Inv X pins σ H s→RelV o ov→RelV i iv→RelV v u→t o i v H Q→
  wpAny (model X.prog X.w) X.A (setItem ov iv u) (fun _ s'=>∃H',Inv X pins σ H' s'∧Q H') X.xe s
section
variable{X:Cx}{pos:Pos}
noncomputable def Z03(i:Nat):TG:=fun v σ H Q=>Q (σ.set i (some v)) H
theorem Z50{i:Nat}{x:Str}(hN:X.N.Nodup)(hi:X.N[i]?=some x)(hx:Loc X.env.scope x)(hf:X.fn x=true∨X.env.scope.names.lookup x=some .local:=by first | exact .inl rfl | exact .inr rfl | assumption):PG X (.Name x pos) (Z03 i):=by
 intro pins s σ H v u Q I r h
 exact wpAny_assign_Name (Zg2 I hN hi hx r (fun s' I'=>⟨_,H,I',h⟩) hf)
noncomputable def gNil:TGs:=fun vs σ H Q=>vs=[]∧Q σ H
noncomputable def Zy8(t:TG)(u:TGs):TGs:=fun vs σ H Q=>∃v r,vs=v::r∧t v σ H fun σ' H'=>u r σ' H' Q
theorem Zr3:PGs X [] gNil:=by
 intro pins s σ H vs us Q I r h
 obtain⟨e,h⟩:=h
 subst e
 cases r
 exact assignInOrder_nil ⟨σ,H,I,h⟩
theorem Zf9{e:Expr}{es:List Expr}{t:TG}{u:TGs}(h1:PG X e t)(h2:PGs X es u)
  (hs:(assignEach (e::es) X.env).map (·.2)=assign e X.env::(assignEach es X.env).map (·.2):=by rfl):PGs X (e::es) (Zy8 t u):=by
 intro pins s σ H vs us Q I r h
 obtain⟨v,vr,e1,h⟩:=h
 subst e1
 cases r with
 | cons r rr=>
  rw[hs]
  refine assignInOrder_cons (thn (h1 pins s σ H _ _ _ I r h) fun _ s1 zz9=>?_)
  obtain⟨σ1,H1,I1,q1⟩:=zz9
  exact h2 pins s1 σ1 H1 _ _ Q I1 rr q1
noncomputable def gTup(K:PySem.W.Frag)(n:Nat)(t:TGs):TG:=fun v σ H Q=>∃a xs,v= .ref a∧SqT K H a xs∧xs.length=n∧t xs σ H Q
theorem Zi6{es:List Expr}{k:Nat}{t:TGs}{n:Nat}(hc:X.calm=true)(h:PGs X es t)
  (hn:(assignEach es X.env).length=n:=by rfl) (hst:(assignEach es X.env).findIdx? (·.1)=none:=by rfl):PG X (.Tuple es k pos) (gTup X.K n t):=by
 intro pins s σ H v u Q I r hw
 obtain⟨a,xs,e1,hq,hl,hw⟩:=hw
 subst e1
 cases r
 obtain⟨its,rv,ht,hz⟩:=I.tuple hq
 refine assign_Tuple_tuple (I.ok.hd hc) ht (by simp[hn,←hl,rv.length]) hst fun h' hx=>?_
 have I1:Inv X pins σ H {s with heap:=h'}:=I.kept (t':=s.toks) fun b o e=>hx b o (Nat.ne_of_lt (Heap.lt_size e)) e
 exact h pins _ σ H xs _ Q I1 (by simpa using rv) hw
def tAsg(te:TE)(g:TG):TS:=fun D σ H=>te σ H fun x H1=>g x σ H1 D.nx
theorem Z82{tg e:Expr}{te:TE}{g:TG}(he:PE X e te)(hg:PG X tg g)(hs:swapsWithSole [tg] e pos.line X.env=pure false:=by rfl)(hw:swappedStores [tg] e X.env=pure none:=by rfl)
  (h1:(assignEach [tg] X.env).map (·.2)=[assign tg X.env]:=by rfl):PS X (.Assign [tg] e pos) (tAsg te g):=by
 intro pins s σ H D I h
 refine wpAny_Assign_stores (thn (he pins s σ H _ I h) fun v s1 zz10=>?_) hs hw
 obtain⟨x,H1,I1,r1,q1⟩:=zz10
 rw[h1]
 exact thn (hg pins s1 σ H1 x v _ I1 r1 q1) fun _ s2 q=>q
end
section
variable{X:Cx}{pos:Pos}
def Zh4(c:TT)(tb:TS):TS:=fun D σ H=>∃W:Nat→St→Hp→Prop,(∃m,W m σ H)∧∀m σ H,W m σ H→
 c σ H fun b H1=>if b=true then ∃N:St→Hp→Prop,(∀σ' H',N σ' H'→∃m',m'<m∧W m' σ' H')∧tb {D with nx:=N,ct:=N,bk:=D.nx} σ H1 else D.nx σ H1
theorem Z89{c:Expr}{body:List Stmt}{tc:TT}{tb:TS}(hp:PassesOwn (model X.prog X.w) X.A X.env X.xe)(hc:PT X c tc)(hb:PSs X body tb):PS X (.While c body [] pos) (Zh4 tc tb):=by
 intro pins s σ H D I h
 obtain⟨W,⟨m0,w0⟩,turn⟩:=h
 refine wpAny_While (codeAny_whileLoop (fun n s'=>∃σ' H',Inv X pins σ' H' s'∧W n σ' H') ?_ m0 ⟨σ,H,I,w0⟩)
 rintro n s1 ⟨σ1,H1,I1,w1⟩
 refine wpAny_passesOwn hp (thn (hc pins s1 σ1 H1 _ I1 (turn n σ1 H1 w1)) fun b s2 zz11=>?_)
 obtain⟨H2,I2,q2⟩:=zz11
 cases b with
 | true=>
  obtain⟨N,hN,q2⟩:=q2
  rw[if_pos rfl]
  refine wpAny_passesOwn hp (thn (hb pins s2 σ1 H2 _ I2 q2) fun f s3 q3=>?_)
  cases f with
  | next=>
   obtain⟨σ3,H3,I3,n3⟩:=q3
   obtain⟨m',hm,w3⟩:=hN σ3 H3 n3
   exact⟨m',hm,σ3,H3,I3,w3⟩
  | cont=>
   obtain⟨σ3,H3,I3,n3⟩:=q3
   obtain⟨m',hm,w3⟩:=hN σ3 H3 n3
   exact⟨m',hm,σ3,H3,I3,w3⟩
  | brk=>exact q3
  | ret v=>exact q3
 | false=>
  rw[if_neg Bool.false_ne_true]
  exact wpAny_execs_nil ⟨σ1,H2,I2,q2⟩
end
structure It where
 go:Nat→Hp→Prop
 yld:Nat→Hp→V→Hp→Prop
 stop:Nat→Hp→Prop
def FpOk(X:Cx)(pins:List (Addr×Obj))(H:Hp)(b:Addr):Prop:=
 H b=none∧b≠X.env.locals∧b∉X.fs∧(b∈X.ex∨X.s₀.heap.objs.size≤b)∧(∀x c,X.env.cells.lookup x=some c→c≠b)∧∀p∈X.pn++pins,p.1≠b
theorem Inv.fpOk{X:Cx}{pins:List (Addr×Obj)}{σ:St}{H H':Hp}{s:Shared}{b:Addr}(I:Inv X pins σ H s)(hb:s.heap.objs.size≤b)(hn:H' b=none):FpOk X pins H' b:=by
 refine⟨hn,Nat.ne_of_gt (Nat.lt_of_lt_of_le I.lt hb),I.nofs hb,.inr (Nat.le_trans I.sz hb),fun x c e z=>?_,fun p hp z=>?_⟩
 ·obtain⟨v,q⟩:=I.cell x c e
  exact absurd (Nat.lt_of_lt_of_le q.lt (by rw[z];exact hb)) (Nat.lt_irrefl _)
 ·exact absurd (Nat.lt_of_lt_of_le (Heap.lt_size (I.pin p hp).1) (by rw[z];exact hb)) (Nat.lt_irrefl _)
structure Turn(P:Program)(w:World)(K:PySem.W.Frag)(tg:Expr)(J:It)(fp:List Addr)(it:Addr)(tn:Nat→Heap→Prop):Prop where
 mem:it∈fp
 obj:∀i h,tn i h→∀b∈fp,∃o,h.get? b=some o∧∀v,o.data≠ .cell v
 keep:∀i h h',tn i h→(∀b∈fp,∀o,h.get? b=some o→h'.get? b=some o)→tn i h'
 item:∀(X:Cx),X.prog=P→X.w=w→X.K=K→X.calm=true→∀(i:Nat) (pins:List (Addr×Obj)) (s:Shared) (σ:St) (H:Hp) (E:Value→Shared→Prop),Inv X pins σ H s→(∀b∈fp,FpOk X pins H b)→tn i s.heap→J.go i H→
  wpAny (model P w) X.A (pyNext (.ref it)) (fun r s1=>∃u,r=some u∧
   wpAny (model P w) X.A (letOwnedTupleGo tg (.ref it) u) (fun _ s2=>∃x H',Inv X pins σ H' s2∧RelV x u∧J.yld i H x H'∧tn (i+1) s2.heap∧∀b∈fp,H' b=none) E s1) E s
 done:∀(X:Cx),X.prog=P→X.w=w→X.K=K→X.calm=true→∀(i:Nat) (pins:List (Addr×Obj)) (s:Shared) (σ:St) (H:Hp) (E:Value→Shared→Prop),Inv X pins σ H s→(∀b∈fp,FpOk X pins H b)→tn i s.heap→J.stop i H→
  wpAny (model P w) X.A (pyNext (.ref it)) (fun r s1=>r=none∧Inv X pins σ H s1) E s
 self:∀(A:Around) (i:Nat) (s:Shared) (Q:Value→Shared→Prop) (E:Value→Shared→Prop),tn i s.heap→Q (.ref it) s→wpAny (model P w) A (pyIter (.ref it)) Q E s
abbrev TI:=St→Hp→(It→Hp→Prop)→Prop
def PIE(X:Cx)(pins:List (Addr×Obj))(σ:St)(tg:Expr)(R:It→Hp→Prop)(itv:Value)(s2:Shared):Prop:=
 ∃(it:Addr) (fp:List Addr) (tn:Nat→Heap→Prop) (J:It) (H':Hp),itv= .ref it∧Inv X pins σ H' s2∧Turn X.prog X.w X.K tg J fp it tn∧tn 0 s2.heap∧(∀b∈fp,FpOk X pins H' b)∧R J H'
def PI(X:Cx)(tg iter:Expr)(wi:TI):Prop:=
 ∀(pins:List (Addr×Obj)) (s:Shared) (σ:St) (H:Hp) (R:It→Hp→Prop),Inv X pins σ H s→wi σ H R→
  wpAny (model X.prog X.w) X.A (eval iter X.env) (fun v s1=>wpAny (model X.prog X.w) X.A (pyIter v) (PIE X pins σ tg R) X.xe s1) X.xe s
theorem Zo5{M:Model}{A:Around}{E:Value→Shared→Prop}{s:Shared}{tg:Expr}{it:Addr}{u:Value}{o:Obj}{n:String}{vs:Array Value}{Q:Unit→Shared→Prop}(ho:s.heap.get? it=some o)(hc:o.cls= .type n)(hd:o.data= .fields vs)
  (hn:["enumerate","zip","dict_itemiterator","dict_reverseitemiterator","odict_iterator","itertools.zip_longest","itertools.pairwise"].contains n=false) (hQ:Q () s):wpAny M A (letOwnedTupleGo tg (.ref it) u) Q E s:=by
 unfold letOwnedTupleGo
 cases tg<;>first
  | exact wpAny_pure hQ
  |(cases u<;>first
    | exact wpAny_pure hQ
    |(refine wpAny_bind (wpAny_load ho ?_)
      rw[hc,hd]
      show wpAny M A (if (["enumerate","zip","dict_itemiterator","dict_reverseitemiterator","odict_iterator","itertools.zip_longest","itertools.pairwise"].contains n&&vs[0]?==some (rawInt _))=true then _ else _) Q E s
      rw[if_neg (by intro h;rw[hn,Bool.false_and] at h;cases h)]
      exact wpAny_pure hQ))
noncomputable def Itl(K:PySem.W.Frag)(a:Addr):It:=
 ⟨fun i H=>∃xs x,SqL K H a xs∧xs[i]?=some x,fun i H x H'=>H'=H∧∀xs,SqL K H a xs→xs[i]?=some x,fun i H=>∃xs,SqL K H a xs∧xs.length≤i⟩
noncomputable def Itt(K:PySem.W.Frag)(a:Addr):It:=
 ⟨fun i H=>∃xs x,SqT K H a xs∧xs[i]?=some x,fun i H x H'=>H'=H∧∀xs,SqT K H a xs→xs[i]?=some x,fun i H=>∃xs,SqT K H a xs∧xs.length≤i⟩
noncomputable def Itr(lo:Int)(n:Nat):It:=⟨fun i _=>i<n,fun i H x H'=>H'=H∧x= .int (lo+i),fun i _=>n≤i⟩
theorem B6{P:Program}{w:World}{K:PySem.W.Frag}{tg:Expr}(a it:Addr):Turn P w K tg (Itl K a) [it] it (fun i h=>h.IsListIter it a i) where
 mem:=by simp
 obj:=fun i h st b hb=>by
  have e:b=it:=by simpa using hb
  subst e
  obtain⟨o,e,c,d⟩:=st
  exact⟨o,e,fun v z=>by rw[d] at z;cases z⟩
 keep:=fun i h h' st k=>st.at fun o e=>k it (by simp) o e
 item:=by
  intro X hP hw hK hc i pins s σ H E I hf st hg
  subst hP hw hK
  obtain⟨xs,x,hq,hx⟩:=hg
  obtain⟨its,rv,p,hz⟩:=I.list hq
  obtain⟨u,hu,ru⟩:=rv.get hx
  obtain⟨f0,f1,f2,f3,f4,f5⟩:=hf it (by simp)
  refine wpAny_pyNext_list_item st p.isList (x:=u) (by simpa using hu) fun h' st' sb=>?_
  have I1:Inv X pins σ H {s with heap:=h'}:=I.turned (t':=s.toks) (fun b o hb e=>(sb.2 b hb).trans e) f0 f1 f3 f4 f5
  obtain⟨o,e,c,d⟩:=id st'
  exact⟨u,rfl,Zo5 (s:={s with heap:=h'}) e c d (by decide) ⟨x,H,I1,ru,⟨rfl,fun ys hy=>by rw[I.list_inj hy hq];exact hx⟩,st',fun b hb=>(hf b hb).1⟩⟩
 done:=by
  intro X hP hw hK hc i pins s σ H E I hf st hg
  subst hP hw hK
  obtain⟨xs,hq,hx⟩:=hg
  obtain⟨its,rv,p,hz⟩:=I.list hq
  obtain⟨f0,f1,f2,f3,f4,f5⟩:=hf it (by simp)
  have hl:=rv.length
  exact wpAny_pyNext_list_end (I.ok.hd hc) st p.isList (by simp;omega) fun h' eb=>⟨rfl,I.turned (t':=s.toks) (fun b o hb e=>eb b o hb e) f0 f1 f3 f4 f5⟩
 self:=fun _ _ _ _ _ st h=>wpAny_pyIter_listiter st h
theorem Eg{P:Program}{w:World}{K:PySem.W.Frag}{tg:Expr}(a it:Addr):Turn P w K tg (Itt K a) [it] it (fun i h=>h.IsTupleIter it a i) where
 mem:=by simp
 obj:=fun i h st b hb=>by
  have e:b=it:=by simpa using hb
  subst e
  obtain⟨o,e,c,d⟩:=st
  exact⟨o,e,fun v z=>by rw[d] at z;cases z⟩
 keep:=fun i h h' st k=>st.at fun o e=>k it (by simp) o e
 item:=by
  intro X hP hw hK hc i pins s σ H E I hf st hg
  subst hP hw hK
  obtain⟨xs,x,hq,hx⟩:=hg
  obtain⟨its,rv,p,hz⟩:=I.tuple hq
  obtain⟨u,hu,ru⟩:=rv.get hx
  obtain⟨f0,f1,f2,f3,f4,f5⟩:=hf it (by simp)
  refine wpAny_pyNext_tuple_item st (show s.heap.IsTuple a its.toArray from p) (x:=u) (by simpa using hu) fun h' st' sb=>?_
  have I1:Inv X pins σ H {s with heap:=h'}:=I.turned (t':=s.toks) (fun b o hb e=>(sb.2 b hb).trans e) f0 f1 f3 f4 f5
  obtain⟨o,e,c,d⟩:=id st'
  exact⟨u,rfl,Zo5 (s:={s with heap:=h'}) e c d (by decide) ⟨x,H,I1,ru,⟨rfl,fun ys hy=>by rw[I.tuple_inj hy hq];exact hx⟩,st',fun b hb=>(hf b hb).1⟩⟩
 done:=by
  intro X hP hw hK hc i pins s σ H E I hf st hg
  subst hP hw hK
  obtain⟨xs,hq,hx⟩:=hg
  obtain⟨its,rv,p,hz⟩:=I.tuple hq
  obtain⟨f0,f1,f2,f3,f4,f5⟩:=hf it (by simp)
  have hl:=rv.length
  exact wpAny_pyNext_tuple_end (I.ok.hd hc) st (show s.heap.IsTuple a its.toArray from p) (by simp;omega) fun h' eb=>⟨rfl,I.turned (t':=s.toks) (fun b o hb e=>eb b o hb e) f0 f1 f3 f4 f5⟩
 self:=fun _ _ _ _ _ st h=>wpAny_pyIter_tupleiter st h
theorem Cy{P:Program}{w:World}{K:PySem.W.Frag}{tg:Expr}(it:Addr)(lo:Int)(n:Nat):Turn P w K tg (Itr lo n) [it] it (fun i h=>IsRangeIter h it (lo+(i:Nat) * 1) ((n:Int) - (i:Nat)) 1) where
 mem:=by simp
 obj:=fun i h st b hb=>by
  have e:b=it:=by simpa using hb
  subst e
  exact⟨_,st,fun v z=>by
   have z':Data.fields _=Data.cell v:=z
   cases z'⟩
 keep:=fun i h h' st k=>k it (by simp) _ st
 item:=by
  intro X hP hw hK hc i pins s σ H E I hf st hg
  subst hP hw hK
  obtain⟨f0,f1,f2,f3,f4,f5⟩:=hf it (by simp)
  have W:=Walks.range (prog:=X.prog) (w:=X.w) (I.ok.hd hc) it lo 1 n
  refine W.item i s _ _ hg st fun v h' tk hv st' kk=>?_
  obtain⟨t,rfl⟩:=hv
  have I1:Inv X pins σ H {s with heap:=h',toks:=tk}:=I.turned (fun b o hb e=>kk b o (by simpa using hb) e) f0 f1 f3 f4 f5
  refine⟨_,rfl,Zo5 (s:={s with heap:=h',toks:=tk}) (n:="range_iterator") st' rfl rfl (by decide) ⟨.int (lo+i),H,I1,⟨t,?_⟩,⟨rfl,rfl⟩,st',fun b hb=>(hf b hb).1⟩⟩
  rw[Int.mul_one]
 done:=by
  intro X hP hw hK hc i pins s σ H E I hf st hg
  subst hP hw hK
  obtain⟨f0,f1,f2,f3,f4,f5⟩:=hf it (by simp)
  exact wpAny_pyNext_range_end (I.ok.hd hc) st (by have:n≤i:=hg;omega) fun h' eb=>⟨rfl,I.turned (t':=s.toks) (fun b o hb e=>eb b o hb e) f0 f1 f3 f4 f5⟩
 self:=fun _ _ _ _ _ st h=>wpAny_pyIter_rangeiter st h
section
variable{X:Cx}{tg:Expr}
theorem Gp{pins:List (Addr×Obj)}{σ:St}{H:Hp}{s:Shared}{R:It→Hp→Prop}{E:Value→Shared→Prop}{lo hi:Int}{t u v:Tok}{tk:Nat}(I:Inv X pins σ H s)(h1:-(2 ^ 62)≤lo)(h2:lo<2 ^ 62)(h3:-(2 ^ 62)≤hi)(h4:hi<2 ^ 62)
  (q:R (Itr lo (hi - lo).toNat) H):wpAny (model X.prog X.w) X.A (pyIter (.ref s.heap.objs.size)) (PIE X pins σ tg R) E {s with heap:=s.heap.push {cls:= .type "range",data:= .fields #[.int lo t,.int hi u,.int 1 v]},toks:=tk}:=by
 refine wpAny_pyIter_range (IsRange.new ..) (small_one h1 h2 h3 h4) ?_
 have I1:Inv X pins σ H {s with heap:=s.heap.push {cls:= .type "range",data:= .fields #[.int lo t,.int hi u,.int 1 v]},toks:=tk}:=I.kept fun b o e=>Heap.get?_push_of_some _ e
 refine⟨(s.heap.push {cls:= .type "range",data:= .fields #[.int lo t,.int hi u,.int 1 v]}).objs.size,[(s.heap.push {cls:= .type "range",data:= .fields #[.int lo t,.int hi u,.int 1 v]}).objs.size],_,_,H,rfl,
  I1.kept (t':=tk) fun b o e=>Heap.get?_push_of_some _ e,Cy _ lo (hi - lo).toNat,?_,fun b hb=>?_,q⟩
 ·have e1:lo+((0:Nat):Int) * 1=lo:=by simp
  have e2:(((hi - lo).toNat:Nat):Int) - ((0:Nat):Int)=Builtin.Range.rangeSize lo hi 1:=by rw[rangeSize_one];split<;>omega
  show IsRangeIter _ _ (lo+((0:Nat):Int) * 1) ((((hi - lo).toNat:Nat):Int) - ((0:Nat):Int)) 1
  rw[e1,e2]
  exact Heap.get?_push_size _ rfl
 ·have e:b=(s.heap.push {cls:= .type "range",data:= .fields #[.int lo t,.int hi u,.int 1 v]}).objs.size:=by simpa using hb
  subst e
  exact I1.fpOk (Nat.le_refl _) (I1.hok.fresh (Nat.le_refl _))
def Y52(ta:TA):TI:=fun σ H R=>ta σ H fun vs H1=>∃j:Int,vs=[.int j]∧ -(2 ^ 62)≤j∧j<2 ^ 62∧R (Itr 0 j.toNat) H1
def Y56(ta:TA):TI:=fun σ H R=>ta σ H fun vs H1=>∃i j:Int,vs=[.int i,.int j]∧(-(2 ^ 62)≤i∧i<2 ^ 62∧ -(2 ^ 62)≤j∧j<2 ^ 62)∧R (Itr i (j - i).toNat) H1
theorem Z65{a:Expr}{ta:TA}{p pos:Pos}(hg:Gl X "range")(hm:X.mg "range"=none)(ha:PA X [a] ta)(hs:starEach [a] X.env=[(false,eval a X.env)]:=by rfl):PI X tg (.Call (.Name "range" p) [a] [] pos) (Y52 ta):=by
 intro pins s σ H R I h
 refine Call_ (Q3 I hg hm boot_range (PyProof.Rows.callWith_type1 (thn (ha pos pins s σ H _ I h) fun us s1 zz12=>?_) hs rfl))
 obtain⟨vs,H1,I1,r1,q1⟩:=zz12
 obtain⟨j,e,q1,q2,q⟩:=q1
 subst e
 cases r1 with
 | cons r rr=>
  cases rr
  obtain⟨t,rfl⟩:=r
  exact call_range_1 (Gp I1 (by omega) (by omega) q1 q2 (by simpa using q))
theorem Bd{a b:Expr}{ta:TA}{p pos:Pos}(hg:Gl X "range")(hm:X.mg "range"=none)(ha:PA X [a,b] ta)(hs:starEach [a,b] X.env=[(false,eval a X.env),(false,eval b X.env)]:=by rfl)(hs2:starEach [b] X.env=[(false,eval b X.env)]:=by rfl):
  PI X tg (.Call (.Name "range" p) [a,b] [] pos) (Y56 ta):=by
 intro pins s σ H R I h
 refine Call_ (Q3 I hg hm boot_range (PyProof.Rows.callWith_type1 (thn (ha pos pins s σ H _ I h) fun us s1 zz13=>?_) (by rw[hs,hs2]) (by rw[hs2];rfl)))
 obtain⟨vs,H1,I1,r1,q1⟩:=zz13
 obtain⟨i,j,e,⟨q1,q2,q3,q4⟩,q⟩:=q1
 subst e
 cases r1 with
 | cons r rr=>
  cases rr with
  | cons r' rr=>
   cases rr
   obtain⟨t,rfl⟩:=r
   obtain⟨t',rfl⟩:=r'
   exact call_range_2 (Gp I1 q1 q2 q3 q4 q)
def tFor(wi:TI)(g:TG)(tb:TS):TS:=fun D σ H=>wi σ H fun J H1=>∃W:Nat→Nat→St→Hp→Prop,(∃m,W 0 m σ H1)∧∀i m σ H,W i m σ H→
 (J.stop i H∧D.nx σ H)∨(J.go i H∧∃N:St→Hp→Prop,(∀σ' H',N σ' H'→∃m',m'<m∧W (i+1) m' σ' H')∧∀x H',J.yld i H x H'→g x σ H' fun σ2 H2=>tb {D with nx:=N,ct:=N,bk:=D.nx} σ2 H2)
noncomputable def Fv(fp:List Addr)(h:Heap):List (Addr×Obj):=fp.filterMap fun b=>(h.get? b).map fun o=>(b,o)
theorem Yx{fp:List Addr}{h:Heap}{b:Addr}{o:Obj}(hb:b∈fp)(e:h.get? b=some o):(b,o)∈Fv fp h:=List.mem_filterMap.mpr ⟨b,hb,by rw[e];rfl⟩
theorem Z64{fp:List Addr}{h:Heap}{p:Addr×Obj}(hp:p∈Fv fp h):p.1∈fp∧h.get? p.1=some p.2:=by
 obtain⟨b,hb,e⟩:=List.mem_filterMap.mp hp
 cases q:h.get? b with
 | none=>rw[q] at e;cases e
 | some o=>
  rw[q] at e
  have e':(b,o)=p:=Option.some.inj e
  subst e'
  exact⟨hb,q⟩
theorem Inv.pinned{pins:List (Addr×Obj)}{σ:St}{H:Hp}{s:Shared}{fp:List Addr}(I:Inv X pins σ H s)(hf:∀b∈fp,FpOk X pins H b)(ho:∀b∈fp,∃o,s.heap.get? b=some o∧∀v,o.data≠ .cell v):Inv X (pins++Fv fp s.heap) σ H s:=
 I.pins_of fun p hp=>(List.mem_append.mp hp).elim (fun z=>I.pin p (List.mem_append_right _ z)) fun z=>by
  obtain⟨hb,e⟩:=Z64 z
  obtain⟨f0,f1,f2,_⟩:=hf p.1 hb
  obtain⟨o,e',d⟩:=ho p.1 hb
  rw[e] at e';cases e'
  exact⟨e,f0,f1,f2,d⟩
theorem Inv.unpinned{pins pl:List (Addr×Obj)}{σ:St}{H:Hp}{s:Shared}(I:Inv X (pins++pl) σ H s):Inv X pins σ H s:=I.pins_of fun p hp=>I.pin p (List.mem_append_right _ (List.mem_append_left _ hp))
theorem Zy5{iter:Expr}{body:List Stmt}{wi:TI}{g:TG}{tb:TS}{pos:Pos}(hp:PassesOwn (model X.prog X.w) X.A X.env X.xe)(hc:X.calm=true)(hi:PI X tg iter wi)(hg:PG X tg g)(hb:PSs X body tb)
  (hs:∀x,foldedSetIterable iter X.env x=pure x:=by intro _;rfl):PS X (.For tg iter body [] pos) (tFor wi g tb):=by
 intro pins s σ H D I h
 refine wpAny_For (thn (hi pins s σ H _ I h) fun v s1 h1=>thn h1 fun itv s2 h2=>?_) hs
 obtain⟨it,fp,tn,J,H2,e,I2,T,st2,f2,W,⟨m0,w0⟩,turn⟩:=h2
 subst e
 have stat:∀{H':Hp},(∀b∈fp,H' b=none)→∀b∈fp,FpOk X pins H' b:=fun hn b hb=>⟨hn b hb,(f2 b hb).2⟩
 refine codeAny_forLoop_any (fun n s'=>∃i σ' H',Inv X pins σ' H' s'∧tn i s'.heap∧(∀b∈fp,H' b=none)∧W i n σ' H') ?_ m0 ⟨0,σ,H2,I2,st2,fun b hb=>(f2 b hb).1,w0⟩
 rintro n s3 ⟨i,σ3,H3,I3,st3,fr3,w3⟩
 rcases turn i n σ3 H3 w3 with⟨stop,qn⟩ | ⟨go,N,hN,step⟩
 ·refine wpAny_passesOwn hp (thn (T.done X rfl rfl rfl hc i pins s3 σ3 H3 X.xe I3 (stat fr3) st3 stop) fun r s4 zz14=>?_)
  obtain⟨hr,I4⟩:=zz14
  subst hr
  exact wpAny_execs_nil ⟨σ3,H3,I4,qn⟩
 ·refine wpAny_passesOwn hp (thn (T.item X rfl rfl rfl hc i pins s3 σ3 H3 X.xe I3 (stat fr3) st3 go) fun r s4 zz15=>?_)
  obtain⟨u,hr,h4⟩:=zz15
  subst hr
  refine wpAny_passesOwn hp (thn h4 fun _ s5 zz16=>?_)
  obtain⟨x,H5,I5,r5,y5,st5,fr5⟩:=zz16
  have I5':=I5.pinned (stat fr5) (T.obj _ _ st5)
  refine wpAny_passesOwn hp (thn (hg _ s5 σ3 H5 x u _ I5' r5 (step x H5 y5)) fun _ s6 zz17=>?_)
  obtain⟨σ6,H6,I6,q6⟩:=zz17
  refine wpAny_passesOwn hp (thn (hb _ s6 σ6 H6 _ I6 q6) fun f s7 q7=>?_)
  have again:∀{σ7:St} {H7:Hp},Inv X (pins++Fv fp s5.heap) σ7 H7 s7→N σ7 H7→∃m,m<n∧∃i σ' H',Inv X pins σ' H' s7∧tn i s7.heap∧(∀b∈fp,H' b=none)∧W i m σ' H':=fun{σ7 H7} I7 n7=>by
   obtain⟨m',hm,w7⟩:=hN σ7 H7 n7
   refine⟨m',hm,i+1,σ7,H7,I7.unpinned,T.keep _ _ _ st5 fun b hb o e=>(I7.pin (b,o) (List.mem_append_right _ (List.mem_append_right _ (Yx hb e)))).1,fun b hb=>?_,w7⟩
   obtain⟨o,e,d⟩:=T.obj _ _ st5 b hb
   exact(I7.pin (b,o) (List.mem_append_right _ (List.mem_append_right _ (Yx hb e)))).2.1
  cases f with
  | next=>obtain⟨σ7,H7,I7,n7⟩:=q7;exact again I7 n7
  | cont=>obtain⟨σ7,H7,I7,n7⟩:=q7;exact again I7 n7
  | brk=>obtain⟨σ7,H7,I7,q7⟩:=q7;exact⟨σ7,H7,I7.unpinned,q7⟩
  | ret v=>obtain⟨x7,σ7,H7,I7,r7,q7⟩:=q7;exact⟨x7,σ7,H7,I7.unpinned,r7,q7⟩
end
theorem Pw{c:TT}{tb:TS}{D:Ends}{σ:St}{H:Hp}(Pv:St→Hp→Prop)(μ:St→Hp→Nat)(h0:Pv σ H)
  (hs:∀σ H,Pv σ H→c σ H fun b H1=>if b=true then tb {D with nx:=fun σ' H'=>Pv σ' H'∧μ σ' H'<μ σ H,ct:=fun σ' H'=>Pv σ' H'∧μ σ' H'<μ σ H,bk:=D.nx} σ H1 else D.nx σ H1)
  (mono:∀σ H Q Q',(∀b H1,Q b H1→Q' b H1)→c σ H Q→c σ H Q'):Zh4 c tb D σ H:=by
 refine⟨fun m σ H=>m=μ σ H∧Pv σ H,⟨_,rfl,h0⟩,?_⟩
 rintro m σ H ⟨rfl,p⟩
 refine mono σ H _ _ (fun b H1 q=>?_) (hs σ H p)
 cases b with
 | true=>exact⟨_,fun σ' H' zz18=>by obtain⟨p',l⟩:=zz18;exact⟨_,l,rfl,p'⟩,q⟩
 | false=>exact q
abbrev R2:=V→V→Hp→VK→Prop
def OpR(X:Cx)(f:Value→Value→Sem Value)(r:R2):Prop:=
 ∀(pins:List (Addr×Obj)) (s:Shared) (σ:St) (H:Hp) (x y:V) (v u:Value) (Q:VK),Inv X pins σ H s→RelV x v→RelV y u→r x y H Q→
  wpAny (model X.prog X.w) X.A (f v u) (EP X pins σ Q) X.xe s
def UnR(X:Cx)(f:Value→Sem Value)(r:V→Hp→VK→Prop):Prop:=
 ∀(pins:List (Addr×Obj)) (s:Shared) (σ:St) (H:Hp) (x:V) (v:Value) (Q:VK),Inv X pins σ H s→RelV x v→r x H Q→
  wpAny (model X.prog X.w) X.A (f v) (EP X pins σ Q) X.xe s
def Wt(X:Cx)(f:Value)(r:List V→Hp→VK→Prop):Prop:=
 ∀(pins:List (Addr×Obj)) (s:Shared) (σ:St) (H:Hp) (xs:List V) (us:List Value) (Q:VK),Inv X pins σ H s→Vals xs us→r xs H Q→
  wpAny (model X.prog X.w) X.A (call f us) (EP X pins σ Q) X.xe s
def TruR(X:Cx)(r:V→Hp→(Bool→Hp→Prop)→Prop):Prop:=
 ∀(pins:List (Addr×Obj)) (s:Shared) (σ:St) (H:Hp) (x:V) (v:Value) (Q:Bool→Hp→Prop),Inv X pins σ H s→RelV x v→r x H Q→
  wpAny (model X.prog X.w) X.A (truthy v) (TP X pins σ Q) X.xe s
def tOp(r:R2)(ta tb:TE):TE:=fun σ H Q=>ta σ H fun x H1=>tb σ H1 fun y H2=>r x y H2 Q
def tUn(r:V→Hp→VK→Prop)(ta:TE):TE:=fun σ H Q=>ta σ H fun x H1=>r x H1 Q
def rI(C:Int→Int→Prop)(g:Int→Int→V):R2:=fun x y H Q=>∃i j,x= .int i∧y= .int j∧C i j∧Q (g i j) H
def rI0(g:Int→Int→V):R2:=fun x y H Q=>∃i j,x= .int i∧y= .int j∧Q (g i j) H
def rU(g:Int→V):V→Hp→VK→Prop:=fun x H Q=>∃i,x= .int i∧Q (g i) H
section
variable{X:Cx}{a b c:Expr}{ta tb tc:TE}{pos:Pos}
theorem binT(ha:PE X a ta)(hb:PE X b tb){pins:List (Addr×Obj)}{s:Shared}{σ:St}{H:Hp}{R:V→V→Hp→Prop}(I:Inv X pins σ H s)
  (h:ta σ H fun x H1=>tb σ H1 fun y H2=>R x y H2) {Q:Value→Shared→Prop} {f:Value→Value→Sem Value}
  (hf:∀v u s2 x y H2,Inv X pins σ H2 s2→RelV x v→RelV y u→R x y H2→wpAny (model X.prog X.w) X.A (f v u) Q X.xe s2):
  wpAny (model X.prog X.w) X.A (eval a X.env) (fun v s₁=>wpAny (model X.prog X.w) X.A (eval b X.env) (fun u s₂=>wpAny (model X.prog X.w) X.A (f v u) Q X.xe s₂) X.xe s₁) X.xe s:=by
 refine thn (ha pins s σ H _ I h) fun v s1 zz19=>?_
 obtain⟨x,H1,I1,r1,q1⟩:=zz19
 refine thn (hb pins s1 σ H1 _ I1 q1) fun u s2 zz20=>?_
 obtain⟨y,H2,I2,r2,q2⟩:=zz20
 exact hf v u s2 x y H2 I2 r1 r2 q2
theorem Y35{op:Operator}{r:R2}(ho:OpR X (binaryOp op) r)(ha:PE X a ta)(hb:PE X b tb):PE X (.BinOp a op b pos) (tOp r ta tb):=by
 intro pins s σ H Q I h
 exact wpAny_BinOp (binT ha hb I h fun v u s2 x y H2 I2 rx ry q=>ho pins s2 σ H2 x y v u Q I2 rx ry q)
theorem Y40{op:UnaryOp}{r:V→Hp→VK→Prop}(ho:UnR X (unaryOp op) r)(ha:PE X a ta):PE X (.UnaryOp op a pos) (tUn r ta):=by
 intro pins s σ H Q I h
 exact UnaryOp_ (thn (ha pins s σ H _ I h) fun v s1 zz21=>by obtain⟨x,H1,I1,r1,q1⟩:=zz21;exact ho pins s1 σ H1 x v Q I1 r1 q1)
theorem opI{f:Value→Value→Sem Value}{C:Int→Int→Prop}{g:Int→Int→Int}
  (rule:∀(i j:Int) (t u:Tok) (s:Shared) (Q:Value→Shared→Prop) (E:Value→Shared→Prop),C i j→Q (.int (g i j) s.toks) {s with toks:=s.toks+1}→wpAny (model X.prog X.w) X.A (f (.int i t) (.int j u)) Q E s):
  OpR X f (rI C fun i j=> .int (g i j)):=by
 intro pins s σ H x y v u Q I rx ry h
 obtain⟨i,j,rfl,rfl,hc,q⟩:=h
 obtain⟨t,rfl⟩:=rx
 obtain⟨t',rfl⟩:=ry
 exact rule i j t t' s _ _ hc ⟨.int (g i j),H,I.tok _,⟨_,rfl⟩,q⟩
theorem opI0{f:Value→Value→Sem Value}{g:Int→Int→Int}
  (rule:∀(i j:Int) (t u:Tok) (s:Shared) (Q:Value→Shared→Prop) (E:Value→Shared→Prop),Q (.int (g i j) s.toks) {s with toks:=s.toks+1}→wpAny (model X.prog X.w) X.A (f (.int i t) (.int j u)) Q E s):
  OpR X f (rI0 fun i j=> .int (g i j)):=by
 intro pins s σ H x y v u Q I rx ry h
 obtain⟨i,j,rfl,rfl,q⟩:=h
 obtain⟨t,rfl⟩:=rx
 obtain⟨t',rfl⟩:=ry
 exact rule i j t t' s _ _ ⟨.int (g i j),H,I.tok _,⟨_,rfl⟩,q⟩
theorem opB0{f:Value→Value→Sem Value}{g:Int→Int→Bool}
  (rule:∀(i j:Int) (t u:Tok) (s:Shared) (Q:Value→Shared→Prop) (E:Value→Shared→Prop),Q (.bool (g i j)) s→wpAny (model X.prog X.w) X.A (f (.int i t) (.int j u)) Q E s):
  OpR X f (rI0 fun i j=> .bl (g i j)):=by
 intro pins s σ H x y v u Q I rx ry h
 obtain⟨i,j,rfl,rfl,q⟩:=h
 obtain⟨t,rfl⟩:=rx
 obtain⟨t',rfl⟩:=ry
 exact rule i j t t' s _ _ ⟨.bl (g i j),H,I,rfl,q⟩
def CPow(i j:Int):Prop:=0≤j∧j≤1000000∧i.natAbs<2 ^ 64
def CMul(i j:Int):Prop:=(-(2 ^ 64)<i∧i<2 ^ 64)∨(-(2 ^ 64)<j∧j<2 ^ 64)
theorem CMul.ok{i j:Int}(h:CMul i j):IntMulOk i j:=by
 rcases h with⟨h1,h2⟩ | ⟨h1,h2⟩
 ·exact .of_left (intBits_le_64 h1 h2)
 ·exact .of_right (intBits_le_64 h1 h2)
theorem Zu4:OpR X (binaryOp .Add) (rI0 fun i j=> .int (i+j)):=opI0 fun _ _ _ _ _ _ _ q=>add_int q
theorem Zw1:OpR X (binaryOp .Sub) (rI0 fun i j=> .int (i - j)):=opI0 fun _ _ _ _ _ _ _ q=>sub_int q
theorem Zr2:OpR X (binaryOp .Mod) (rI (fun _ j=>j≠0) fun i j=> .int (i.fmod j)):=opI fun _ _ _ _ _ _ _ hc q=>mod_int' hc q
theorem Y01:OpR X (binaryOp .Pow) (rI CPow fun i j=> .int (i ^ j.toNat)):=opI fun _ _ _ _ _ _ _ hc q=>pow_int_small hc.1 hc.2.1 hc.2.2 q
theorem unI{f:Value→Sem Value}{g:Int→Int}
  (rule:∀(i:Int) (t:Tok) (s:Shared) (Q:Value→Shared→Prop) (E:Value→Shared→Prop),Q (.int (g i) s.toks) {s with toks:=s.toks+1}→wpAny (model X.prog X.w) X.A (f (.int i t)) Q E s):
  UnR X f (rU fun i=> .int (g i)):=by
 intro pins s σ H x v Q I rx h
 obtain⟨i,rfl,q⟩:=h
 obtain⟨t,rfl⟩:=rx
 exact rule i t s _ _ ⟨.int (g i),H,I.tok _,⟨_,rfl⟩,q⟩
theorem Zy7:UnR X (unaryOp .USub) (rU fun i=> .int (-i)):=unI fun _ _ _ _ _ q=>neg_int q
end
noncomputable def scal:V→V→Bool
 | .non,.non=>true | .non,.int _=>true | .int _,.non=>true | .non,.bl _=>true | .bl _,.non=>true | .non,.str _=>true | .str _,.non=>true
 | .int _,.int _=>true | .bl _,.bl _=>true | .str _,.str _=>true | .byt _,.byt _=>true
 | .int _,.str _=>true | .str _,.int _=>true | .bl _,.str _=>true | .str _,.bl _=>true
 | _,_=>false
def rEq:R2:=fun x y H Q=>scal x y=true∧Q (.bl (decide (x=y))) H
def rNe:R2:=fun x y H Q=>scal x y=true∧Q (.bl (!decide (x=y))) H
theorem Z77{i j:Int}:decide (V.int i=V.int j)=(i==j):=by
 rw[Bool.eq_iff_iff]
 simp
theorem Zh5{i j:Bool}:decide (V.bl i=V.bl j)=(i==j):=by
 rw[Bool.eq_iff_iff]
 simp
theorem Bt{i j:Str}:decide (V.str i=V.str j)=(i==j):=by
 rw[Bool.eq_iff_iff]
 simp
theorem Z86{i j:Array UInt8}:decide (V.byt i=V.byt j)=(i.toList==j.toList):=by
 rw[Bool.eq_iff_iff]
 cases i
 cases j
 simp
section
variable{X:Cx}{a b c:Expr}{ta tb tc:TE}{pos:Pos}
theorem Zu{pins:List (Addr×Obj)}{σ:St}{H:Hp}{s:Shared}{Q:VK}{k k':Bool}(I:Inv X pins σ H s)(q:Q (.bl k) H)(e:k=k'):EP X pins σ Q (.bool k') s:=by
 subst e
 exact⟨.bl k,H,I,rfl,q⟩
theorem Y32:OpR X (compareOp .Eq) rEq:=by
 intro pins s σ H x y v u Q I rx ry h
 obtain⟨hs,q⟩:=h
 cases x with
 | non=>
  cases rx
  cases y with
  | non=>cases ry;exact PySem.EqNone.eq_none_none (Zu I q (by simp))
  | bl j=>cases ry;exact PySem.EqNone.eq_none_bool (Zu I q (by simp))
  | int j=>obtain⟨t',rfl⟩:=ry;exact PySem.EqNone.eq_none_int (Zu I q (by simp))
  | str j=>obtain⟨t',rfl⟩:=ry;exact PySem.EqNone.eq_none_str (Zu I q (by simp))
  | _=>exact absurd (show false=true from hs) Bool.false_ne_true
 | bl i=>
  cases rx
  cases y with
  | non=>cases ry;exact PySem.EqNone.eq_bool_none (Zu I q (by simp))
  | bl j=>cases ry;exact eq_bool (Zu I q Zh5)
  | str j=>obtain⟨t',rfl⟩:=ry;exact PySem.EqMixed.eq_bool_str (Zu I q (by simp))
  | _=>exact absurd (show false=true from hs) Bool.false_ne_true
 | int i=>
  obtain⟨t,rfl⟩:=rx
  cases y with
  | non=>cases ry;exact PySem.EqNone.eq_int_none (Zu I q (by simp))
  | int j=>obtain⟨t',rfl⟩:=ry;exact eq_int (Zu I q Z77)
  | str j=>obtain⟨t',rfl⟩:=ry;exact PySem.EqMixed.eq_int_str (Zu I q (by simp))
  | _=>exact absurd (show false=true from hs) Bool.false_ne_true
 | str i=>
  obtain⟨t,rfl⟩:=rx
  cases y with
  | non=>cases ry;exact PySem.EqNone.eq_str_none (Zu I q (by simp))
  | bl j=>cases ry;exact PySem.EqMixed.eq_str_bool (Zu I q (by simp))
  | int j=>obtain⟨t',rfl⟩:=ry;exact PySem.EqMixed.eq_str_int (Zu I q (by simp))
  | str j=>obtain⟨t',rfl⟩:=ry;exact eq_str (Zu I q Bt)
  | _=>exact absurd (show false=true from hs) Bool.false_ne_true
 | byt i=>
  obtain⟨t,rfl⟩:=rx
  cases y with
  | byt j=>obtain⟨t',rfl⟩:=ry;exact PySem.W.eq_bytes (Zu I q Z86)
  | _=>exact absurd (show false=true from hs) Bool.false_ne_true
 | _=>cases y<;>exact absurd (show false=true from hs) Bool.false_ne_true
theorem Y47:OpR X (compareOp .NotEq) rNe:=by
 intro pins s σ H x y v u Q I rx ry h
 obtain⟨hs,q⟩:=h
 cases x with
 | non=>
  cases rx
  cases y with
  | non=>cases ry;exact PySem.EqNone.ne_none_none (Zu I q (by simp))
  | bl j=>cases ry;exact PySem.EqNone.ne_none_bool (Zu I q (by simp))
  | int j=>obtain⟨t',rfl⟩:=ry;exact PySem.EqNone.ne_none_int (Zu I q (by simp))
  | str j=>obtain⟨t',rfl⟩:=ry;exact PySem.EqNone.ne_none_str (Zu I q (by simp))
  | _=>exact absurd (show false=true from hs) Bool.false_ne_true
 | bl i=>
  cases rx
  cases y with
  | non=>cases ry;exact PySem.EqNone.ne_bool_none (Zu I q (by simp))
  | bl j=>cases ry;exact ne_bool (Zu I q (congrArg not Zh5))
  | str j=>obtain⟨t',rfl⟩:=ry;exact PySem.EqMixed.ne_bool_str (Zu I q (by simp))
  | _=>exact absurd (show false=true from hs) Bool.false_ne_true
 | int i=>
  obtain⟨t,rfl⟩:=rx
  cases y with
  | non=>cases ry;exact PySem.EqNone.ne_int_none (Zu I q (by simp))
  | int j=>obtain⟨t',rfl⟩:=ry;exact ne_int (Zu I q (congrArg not Z77))
  | str j=>obtain⟨t',rfl⟩:=ry;exact PySem.EqMixed.ne_int_str (Zu I q (by simp))
  | _=>exact absurd (show false=true from hs) Bool.false_ne_true
 | str i=>
  obtain⟨t,rfl⟩:=rx
  cases y with
  | non=>cases ry;exact PySem.EqNone.ne_str_none (Zu I q (by simp))
  | bl j=>cases ry;exact PySem.EqMixed.ne_str_bool (Zu I q (by simp))
  | int j=>obtain⟨t',rfl⟩:=ry;exact PySem.EqMixed.ne_str_int (Zu I q (by simp))
  | str j=>obtain⟨t',rfl⟩:=ry;exact ne_str (Zu I q (congrArg not Bt))
  | _=>exact absurd (show false=true from hs) Bool.false_ne_true
 | byt i=>
  obtain⟨t,rfl⟩:=rx
  cases y with
  | byt j=>obtain⟨t',rfl⟩:=ry;exact PySem.W.ne_bytes (Zu I q (congrArg not Z86))
  | _=>exact absurd (show false=true from hs) Bool.false_ne_true
 | _=>cases y<;>exact absurd (show false=true from hs) Bool.false_ne_true
theorem Y53:OpR X (compareOp .Lt) (rI0 fun i j=> .bl (decide (i<j))):=opB0 fun _ _ _ _ _ _ _ q=>lt_int q
theorem Y42:OpR X (compareOp .Gt) (rI0 fun i j=> .bl (decide (j<i))):=opB0 fun _ _ _ _ _ _ _ q=>gt_int q
theorem Y16:OpR X (compareOp .GtE) (rI0 fun i j=> .bl (decide (j≤i))):=opB0 fun _ _ _ _ _ _ _ q=>ge_int q
theorem Z49:OpR X (compareOp .In) (fun x y H Q=>∃i j,x= .str i∧y= .str j∧Q (.bl (!(Builtin.Str.occurrences j i 0 j.length 1).isEmpty)) H):=by
 intro pins s σ H x y v u Q I rx ry h
 obtain⟨i,j,rfl,rfl,q⟩:=h
 obtain⟨t,rfl⟩:=rx
 obtain⟨t',rfl⟩:=ry
 exact in_str (Zu I q rfl)
theorem Q0:OpR X (compareOp .Is) (fun x y H Q=>y= .non∧Q (.bl (decide (x= .non))) H):=by
 intro pins s σ H x y v u Q I rx ry h
 obtain⟨rfl,q⟩:=h
 cases ry
 refine is_none_gen (Zu I q ?_)
 cases x<;>first
  |(cases rx;rfl)
  |(obtain⟨t,rfl⟩:=rx;rfl)
theorem Jn:OpR X (compareOp .NotIn) (fun x y H Q=>∃i j,x= .str i∧y= .str j∧Q (.bl (!(!(Builtin.Str.occurrences j i 0 j.length 1).isEmpty))) H):=by
 intro pins s σ H x y v u Q I rx ry h
 obtain⟨i,j,rfl,rfl,q⟩:=h
 obtain⟨t,rfl⟩:=rx
 obtain⟨t',rfl⟩:=ry
 exact notIn_str (Zu I q rfl)
theorem Zs2{op:CmpOp}{r:R2}(ho:OpR X (compareOp op) r)(ha:PE X a ta)(hb:PE X b tb)(hm:behindInMarks op b=false):PE X (.Compare a [op] [b] pos) (tOp r ta tb):=by
 intro pins s σ H Q I h
 exact wpAny_Compare1 (binT ha hb I h fun v u s2 x y H2 I2 rx ry q=>ho pins s2 σ H2 x y v u Q I2 rx ry q) hm
def Zt8(t:TE):TT:=fun σ H Q=>t σ H fun x H'=>∃k,x= .bl k∧Q k H'
theorem Zo3{op:CmpOp}{r:R2}(ho:OpR X (compareOp op) r)(ha:PE X a ta)(hb:PE X b tb)(hm:behindInMarks op b=false):PT X (.Compare a [op] [b] pos) (Zt8 (tOp r ta tb)):=by
 intro pins s σ H Q I h
 refine wpAny_isTrue_Compare1 (thn (ha pins s σ H _ I h) fun v s1 ⟨x,H1,I1,r1,q1⟩=>thn (hb pins s1 σ H1 _ I1 q1) fun u s2 ⟨y,H2,I2,r2,q2⟩=>
  thn (ho pins s2 σ H2 x y v u _ I2 r1 r2 q2) fun c s3 ⟨z,H3,I3,r3,k,e,q3⟩=>?_) hm
 subst e
 cases r3
 exact wpAny_truthy_bool ⟨H3,I3,q3⟩
def TruV(K:PySem.W.Frag)(x:V)(H:Hp)(k:Bool):Prop:=
 match x with
 | .non=>k=false
 | .bl b=>k=b
 | .int i=>k=(i !=0)
 | .str y=>y.length≤sizeLine∧k=((y.length:Int) !=0)
 | .byt y=>y.size≤sizeLine∧k=((y.size:Int) !=0)
 | .ref p=>(∃xs,SqL K H p xs∧k= !xs.isEmpty)∨(∃xs,SqT K H p xs∧k= !xs.isEmpty)∨∃kvs,H p=some (.dK kvs)∧k= !kvs.isEmpty
 | _=>False
theorem Ci{κ:Type}{kvs:List (κ×V)}{vs:List (κ×Value)}(r:KV kvs vs):(!vs.isEmpty)= !kvs.isEmpty:=by
 cases r<;>rfl
theorem Pb{xs:List V}{its:List Value}(r:Vals xs its):(!its.toArray.isEmpty)= !xs.isEmpty:=by
 cases r<;>simp
theorem Qb:(sizeLine:Nat)<2 ^ 63:=by rw[sizeLine_eq];decide
theorem Gr:TruR X (fun x H Q=>∃k,TruV X.K x H k∧Q k H):=by
 intro pins s σ H x v Q I rx h
 obtain⟨k,e,q⟩:=h
 have hl:=Qb
 have hs:sizeLine=16777216:=sizeLine_eq
 cases x with
 | non=>
  cases rx
  have e':k=false:=e
  subst e'
  exact truthy_none ⟨H,I,q⟩
 | bl b=>
  cases rx
  have e':k=b:=e
  subst e'
  exact wpAny_truthy_bool ⟨H,I,q⟩
 | int i=>
  obtain⟨t,rfl⟩:=rx
  have e':k=(i !=0):=e
  subst e'
  exact PySem.P.truthy_int ⟨H,I,q⟩
 | str y=>
  obtain⟨t,rfl⟩:=rx
  obtain⟨hy,e'⟩:y.length≤sizeLine∧k=((y.length:Int) !=0):=e
  subst e'
  exact PySem.P.truthy_str (by omega) ⟨H,I.tok _,q⟩
 | byt y=>
  obtain⟨t,rfl⟩:=rx
  obtain⟨hy,e'⟩:y.size≤sizeLine∧k=((y.size:Int) !=0):=e
  subst e'
  exact PySem.W.truthy_bytes (by omega) ⟨H,I.tok _,q⟩
 | ref p=>
  cases rx
  have e':(∃xs,SqL X.K H p xs∧k= !xs.isEmpty)∨(∃xs,SqT X.K H p xs∧k= !xs.isEmpty)∨∃kvs,H p=some (.dK kvs)∧k= !kvs.isEmpty:=e
  rcases e' with⟨xs,hx,e'⟩ | ⟨xs,hx,e'⟩ | ⟨kvs,hx,e'⟩
  ·subst e'
   obtain⟨its,r,pl,hz⟩:=I.list hx
   have hlen:=r.length
   exact wpAny_truthy_list pl.isList (by simp only[List.size_toArray];omega) ⟨H,I.tok _,by rw[Pb r];exact q⟩
  ·subst e'
   obtain⟨its,r,pl,hz⟩:=I.tuple hx
   have hlen:=r.length
   exact truthy_tuple pl (by simp only[List.size_toArray];omega) ⟨H,I.tok _,by rw[Pb r];exact q⟩
  ·subst e'
   obtain⟨hz,hS,vs,r,m⟩:kvs.length≤sizeLine∧(p==sysModules)=false∧∃vs,KV kvs vs∧s.heap.DictOf (Yb X.prog X.w) p vs:=I.hok p _ hx
   have hlen:kvs.length=vs.length:=Paired.length r
   exact wpAny_truthy_dict hS m (by omega) ⟨H,I.tok _,by rw[Ci r];exact q⟩
 | _=>exact(show False from e).elim
theorem Za5(ha:PE X a ta)(he:∀whole,isTrue a X.env whole=(do let v ←whole;standAt a.pos;holding [v] (truthy v))):
  PT X a (fun σ H Q=>ta σ H fun x H'=>∃k,TruV X.K x H' k∧Q k H'):=by
 intro pins s σ H Q I h
 exact isTrue_plain (thn (ha pins s σ H _ I h) fun v s1 zz23=>by obtain⟨x,H1,I1,r1,q1⟩:=zz23;exact Gr pins s1 σ H1 x v Q I1 r1 q1) (he _)
theorem Et:OpR X (binaryOp .Add) (fun x y H Q=>∃i j,x= .str i∧y= .str j∧i.length+j.length≤sizeLine∧Q (.str (i++j)) H):=by
 intro pins s σ H x y v u Q I rx ry h
 obtain⟨i,j,rfl,rfl,hz,q⟩:=h
 obtain⟨t,rfl⟩:=rx
 obtain⟨t',rfl⟩:=ry
 exact add_str (fun t' tk=>⟨.str (i++j),H,I.tok _,⟨_,rfl⟩,q⟩) hz
theorem Q6{x:V}{us:List Value}(r:Vals [x] us):∃u,us=[u]∧RelV x u:=by
 cases r with
 | cons r1 r2=>cases r2;exact⟨_,rfl,r1⟩
theorem Ga{x y:V}{us:List Value}(r:Vals [x,y] us):∃u w',us=[u,w']∧RelV x u∧RelV y w':=by
 cases r with
 | cons r1 r2=>
  cases r2 with
  | cons r3 r4=>cases r4;exact⟨_,_,rfl,r1,r3⟩
theorem Z55(hc:X.calm=true):Wt X (.builtin "max") (fun xs H Q=>∃i j,xs=[.int i,.int j]∧Q (.int (if j >i then j else i)) H):=by
 intro pins s σ H xs us Q I r h
 obtain⟨i,j,rfl,q⟩:=h
 obtain⟨u,w',rfl,⟨t,rfl⟩,⟨t',rfl⟩⟩:=Ga r
 refine max_two_ints (I.ok.hd hc) fun h' tk k=>⟨_,H,I.kept k,?_,q⟩
 by_cases hj:j >i
 ·rw[if_pos hj,if_pos hj];exact⟨_,rfl⟩
 ·rw[if_neg hj,if_neg hj];exact⟨_,rfl⟩
theorem Z38(hc:X.calm=true):Wt X (.builtin "min") (fun xs H Q=>∃i j,xs=[.int i,.int j]∧Q (.int (if j<i then j else i)) H):=by
 intro pins s σ H xs us Q I r h
 obtain⟨i,j,rfl,q⟩:=h
 obtain⟨u,w',rfl,⟨t,rfl⟩,⟨t',rfl⟩⟩:=Ga r
 refine min_two_ints (I.ok.hd hc) fun h' tk k=>⟨_,H,I.kept k,?_,q⟩
 by_cases hj:j<i
 ·rw[if_pos hj,if_pos hj];exact⟨_,rfl⟩
 ·rw[if_neg hj,if_neg hj];exact⟨_,rfl⟩
end
structure ObjM(h:Heap)(x dx C:Addr)(mA:Str→Option Value):Prop where
 obj:h.get? x=some (PySem.W.instObj C dx)
 ns:h.Ns1 dx mA
 ne:dx≠x
theorem Nn{h:Heap}{dx:Addr}{mA:Str→Option Value}(n:h.Ns1 dx mA):∃od,h.get? dx=some od∧∀name,PySem.W.lookIn name od=some (mA name):=by
 obtain⟨o,es,ep,ho,hd,hk,_,hm⟩:=n
 refine⟨o,ho,fun name=>?_⟩
 have e:=hm name
 unfold nsFind findBy at e
 rw[←Array.find?_toList] at e
 unfold PySem.W.lookIn
 rw[hd]
 dsimp only
 split
 ·rename_i y q
  rw[q] at e
  exact congrArg some e
 ·rename_i q
  rw[q] at e
  have a:es.toList.any (·.refKey)=false:=by
   rw[List.any_eq_false]
   intro y hy
   obtain⟨z,t,hkey⟩:=hk y (Array.mem_toList_iff.mp hy)
   simp[DictEntry.refKey,hkey]
  have a':¬es.toList.any (·.refKey)=true:=by rw[a];exact Bool.false_ne_true
  rw[if_neg a']
  exact congrArg some e
theorem ObjM.look{h:Heap}{x dx C:Addr}{mA:Str→Option Value}(I:ObjM h x dx C mA):∃od,PySem.W.InstAt h x (PySem.W.instObj C dx) C (some od)∧∀name,PySem.W.lookIn name od=some (mA name):=
 let ⟨od,ho,hl⟩:=Nn I.ns
 ⟨od,⟨I.obj,rfl,rfl,ho⟩,hl⟩
theorem RelO.some_of{v:V}{o:Option Value}(r:RelO (some v) o):∃u,o=some u∧RelV v u:=by
 cases o with
 | none=>exact(show False from r).elim
 | some u=>exact⟨u,rfl,r⟩
theorem RelO.none_of{o:Option Value}(r:RelO none o):o=none:=by
 cases o with
 | none=>rfl
 | some u=>exact(show False from r).elim
section
variable{P:Program}{w:World}{H H':Hp}{h h':Heap}{a C dx:Addr}{fs fs':List (Str×V)}
theorem Zp9(hok:HOk P w H h)(e:H a=some (.ins C dx fs)):∃mA,ObjM h a dx C mA∧(∀f,RelO (fs.lookup f) (mA f))∧PySem.Within mA (fs.map (·.1))∧fs.length≤1000∧H dx=some (.own a):=by
 obtain⟨d,z,ne,ob,mA,n,r,q⟩:=(show X9 P w H h a (.ins C dx fs) from hok a _ e)
 exact⟨mA,⟨ob,n,ne⟩,r,q,z,d⟩
end
structure Cls(K:PySem.W.Frag)(C:Addr):Prop where
 pg:PySem.W.plainGet K C Str.empty=true
 hd:PySem.W.hasDictIn K C=true
 po:PySem.W.plainOver K C=true
 sa:PySem.W.findIn K (.ref C) "__setattr__"=some (some (.builtin "object.__setattr__"))
theorem Cls.get{K:PySem.W.Frag}{C:Addr}(c:Cls K C)(f:Str):PySem.W.plainGet K C f=true:=c.pg
structure Con(K:PySem.W.Frag)(C:Addr)(f:Str)(v:V)(u:Value):Prop where
 at_:PySem.W.findIn K (.ref C) f=some (some u)
 rel:RelV v u
 get:PySem.W.specialIn K u "__get__"=some none
 cp:PySem.W.copiedNames.contains f=false
structure Meth(K:PySem.W.Frag)(C:Addr)(m:Str)(f:Addr):Prop where
 at_:PySem.W.findIn K (.ref C) m=some (some (.ref f))
 fn:PySem.W.isFn K (.ref f)=true
 kp:PySem.W.keepIn K (.ref f)=true
section
variable{X:Cx}{pins:List (Addr×Obj)}{σ:St}{H:Hp}{s:Shared}{A:Around}{E:Value→Shared→Prop}{Q:Value→Shared→Prop}{c:Value}{b:Bool}
inductive TyOf (K:PySem.W.Frag) (H:Hp):V→Value→Prop where
 | non:TyOf K H .non (.type "NoneType")
 | bl (x:Bool):TyOf K H (.bl x) (.type "bool")
 | int (i:Int):TyOf K H (.int i) (.type "int")
 | str (x:Str):TyOf K H (.str x) (.type "str")
 | flt (x:UInt64):TyOf K H (.flt x) (.type "float")
 | lst {a:Addr} {xs:List V} (e:H a=some (.lst xs)):TyOf K H (.ref a) (.type "list")
 | frz {a:Addr} {o:Obj} {xs:List V} (e:H a=some (.frz o (.lst xs))):TyOf K H (.ref a) (.type "list")
 | tup {a:Addr} {xs:List V} (e:H a=some (.tup xs)):TyOf K H (.ref a) (.type "tuple")
 | dK {a:Addr} {kvs:List (Key×V)} (e:H a=some (.dK kvs)):TyOf K H (.ref a) (.type "dict")
 | dT {a:Addr} {kvs:List (List Key×V)} (e:H a=some (.dT kvs)):TyOf K H (.ref a) (.type "dict")
 | ins {a C dx:Addr} {fs:List (Str×V)} (e:H a=some (.ins C dx fs)) (cl:Cls K C) (ha:PySem.W.findIn K (.ref C) "__class__"=some (some (.builtin "object.__class__")))
   (hn:PySem.W.specialIn K (.builtin "object.__class__") "__get__"=some (some (.builtin "getset_descriptor.__get__"))) (htk:PySem.W.takesIn K (.builtin "object.__class__")=some true)
   (hm:PySem.W.mroIn K C (.type "object")=some true):TyOf K H (.ref a) (.ref C)
theorem B9{x:V}{u t:Value}(I:Inv X pins σ H s)(rx:RelV x u)(ty:TyOf X.K H x t)(e:PySem.W.kitOne X.K t c=some b)(h:∀tk,Q (.bool b) {s with toks:=tk}):
  wpAny (model X.prog X.w) A (call (.builtin "isinstance") [u,c]) Q E s:=by
 cases ty with
 | non=>cases (show u=Value.none from rx);exact PySem.W.kia_one PySem.W.kitx_none I.kIn True.intro e (fun z=>nomatch z) h
 | bl y=>cases (show u=Value.bool y from rx);exact PySem.W.kia_one PySem.W.kitx_bool I.kIn True.intro e (fun z=>nomatch z) h
 | int i=>obtain⟨t,q⟩:=(show ∃t,u=Value.int i t from rx);cases q;exact PySem.W.kia_one PySem.W.kitx_int I.kIn True.intro e (fun z=>nomatch z) h
 | str y=>obtain⟨t,q⟩:=(show ∃t,u=Value.str y t from rx);cases q;exact PySem.W.kia_one PySem.W.kitx_str I.kIn True.intro e (fun z=>nomatch z) h
 | flt y=>obtain⟨t,q⟩:=(show ∃t,u=Value.float y t from rx);cases q;exact PySem.W.kia_one PySem.W.kitx_float I.kIn True.intro e (fun z=>nomatch z) h
 | @lst a xs ea=>
  cases (show u=Value.ref a from rx)
  obtain⟨_,_,n,_,h1⟩:=(show X9 X.prog X.w H s.heap a (.lst xs) from I.hok a _ ea)
  exact PySem.W.kia_one PySem.W.kitx_list I.kIn ⟨_,h1,rfl⟩ e (fun z=>nomatch z) h
 | @frz a ob xs ea=>
  cases (show u=Value.ref a from rx)
  obtain⟨_,_,_,n,_,h1⟩:=(show X9 X.prog X.w H s.heap a (.frz ob (.lst xs)) from I.hok a _ ea)
  exact PySem.W.kia_one PySem.W.kitx_list I.kIn ⟨_,h1,rfl⟩ e (fun z=>nomatch z) h
 | @tup a xs ea=>
  cases (show u=Value.ref a from rx)
  obtain⟨_,_,_,p⟩:=(show X9 X.prog X.w H s.heap a (.tup xs) from I.hok a _ ea)
  obtain⟨o,h1,h2,_⟩:=p
  exact PySem.W.kia_one PySem.W.kitx_tuple I.kIn ⟨o,h1,h2⟩ e (fun z=>nomatch z) h
 | @dK a kvs ea=>
  cases (show u=Value.ref a from rx)
  obtain⟨_,_,vs,_,p⟩:=(show X9 X.prog X.w H s.heap a (.dK kvs) from I.hok a _ ea)
  obtain⟨o,es,ep,h1,h2,_⟩:=p
  exact PySem.W.kia_one PySem.W.kitx_dict I.kIn ⟨o,h1,h2.1⟩ e (fun z=>nomatch z) h
 | @dT a kvs ea=>
  cases (show u=Value.ref a from rx)
  obtain⟨_,_,xs,_,o,es,ep,h1,h2,_⟩:=(show X9 X.prog X.w H s.heap a (.dT kvs) from I.hok a _ ea)
  exact PySem.W.kia_one PySem.W.kitx_dict I.kIn ⟨o,h1,h2.1⟩ e (fun z=>nomatch z) h
 | @ins a C dx fs ea cl ha hn htk hm=>
  cases (show u=Value.ref a from rx)
  obtain⟨mA,O,_⟩:=Zp9 I.hok ea
  obtain⟨od,J,_⟩:=O.look
  exact PySem.W.kia_one (PySem.W.kitx_own (cl.get _) cl.hd ha hn htk hm) I.kIn J e (fun z=>nomatch z) h
end
structure Room(k:Nat)(A:Around):Prop where
 hd:A.handled=none
 dp:A.depth+3 * k+5<recursionLimit
 un:A.units+16 * k+200<cLine
theorem Room.mono{j k:Nat}{A:Around}(r:Room k A)(h:j≤k):Room j A:=⟨r.hd,by have:=r.dp;omega,by have:=r.un;omega⟩
theorem Room.deeper{k:Nat}{A:Around}(r:Room (k+1) A)(env:Env):Room k (A.deeper env):=
 ⟨r.hd,by have:=r.dp;show A.depth+1+3 * k+5<_;omega,by have:=r.un;show A.units+3+16 * k+200<_;omega⟩
theorem Room.depth{k:Nat}{A:Around}(r:Room k A):A.depth<recursionLimit:=by have:=r.dp;omega
theorem Room.units{k:Nat}{A:Around}(r:Room k A):A.units+64<cLine:=by have:=r.un;omega
def tNil:TA:=fun _ H Q=>Q [] H
def Y49(ta:TE)(tr:TA):TA:=fun σ H Q=>ta σ H fun x H1=>tr σ H1 fun xs H2=>Q (x::xs) H2
section
variable{X:Cx}{e:Expr}{es:List Expr}{te:TE}{t:TA}{pos:Pos}
theorem Vv:PA X [] tNil:=fun _ _ _ _ H Q I h=>Calls.spliced_nil ⟨[],H,I,.nil,h⟩
theorem Xr(ha:PE X e te)(hr:PA X es t)(hs:starEach (e::es) X.env=(false,eval e X.env)::starEach es X.env:=by rfl):PA X (e::es) (Y49 te t):=by
 intro pos pins s σ H Q I h
 rw[hs]
 show wpAny _ _ (spliced ((false,eval e X.env)::backTo pos (starEach es X.env))) _ _ s
 refine Calls.spliced_cons (thn (ha pins s σ H _ I h) fun u s1 zz24=>?_)
 obtain⟨x,H1,I1,r1,q1⟩:=zz24
 exact thn (hr pos pins s1 σ H1 _ I1 q1) fun us s2 zz25=>by obtain⟨xs,H2,I2,r2,q2⟩:=zz25;exact⟨x::xs,H2,I2,.cons r1 r2,q2⟩
def tTup(t:TA):TE:=fun σ H Q=>t σ H fun xs H1=>xs.length≤sizeLine∧∀p,H1 p=none→Q (.ref p) (upd H1 p (.tup xs))
def tLst(t:TA):TE:=fun σ H Q=>t σ H fun xs H1=>xs.length≤sizeLine∧∀p,H1 p=none→Q (.ref p) (upd H1 p (.lst xs))
theorem Zy0{x1}(h:PA X es t):PE X (.Tuple es x1 pos) (tTup t):=by
 intro pins s σ H Q I hq
 refine wpAny_Tuple_spliced (thn (h pos pins s σ H _ I hq) fun us s1 ⟨xs,H1,I1,r,z,q⟩=>⟨by rw[←r.length];exact z,?_⟩)
 have hf:H1 s1.heap.objs.size=none:=I1.hok.fresh (Nat.le_refl _)
 refine⟨.ref s1.heap.objs.size,upd H1 s1.heap.objs.size (.tup xs),I1.laid (t':=s1.toks) (fun b u e=>Heap.get?_push_of_some _ e) (Nat.le_refl _) ?_,rfl,q _ hf⟩
 exact⟨z,us,r,⟨_,Heap.get?_push_size _ rfl,rfl,_,rfl⟩⟩
theorem Zz2(h:PA X es t):PE X (.List es pos) (tLst t):=by
 intro pins s σ H Q I hq
 refine wpAny_List_spliced (thn (h pos pins s σ H _ I hq) fun us s1 ⟨xs,H1,I1,r,z,q⟩=>⟨by rw[←r.length];exact z,?_⟩)
 have hf:H1 s1.heap.objs.size=none:=I1.hok.fresh (Nat.le_refl _)
 refine⟨.ref s1.heap.objs.size,upd H1 s1.heap.objs.size (.lst xs),I1.laid (t':=s1.toks) (fun b u e=>Heap.get?_push_of_some _ e) (Nat.le_refl _) ?_,rfl,q _ hf⟩
 exact⟨z,us,0,r,Heap.get?_push_size _ rfl⟩
end
abbrev Sp:=List V→Hp→VK→XK→Prop
abbrev CXT:=List Env→Hp→Shared→XK→Value→Shared→Prop
structure Env0(P:Program)(w:World)(K:PySem.W.Frag)(mg:Str→Option Value)(base:Heap)(A:Around)(outer:List Env)(s:Shared)(H:Hp):Prop where
 frames:A.frames=some outer
 mod:Mod K mg base
 bs:∀b o,base.get? b=some o→s.heap.get? b=some o∧H b=none
 bsz:base.objs.size≤s.heap.objs.size
 funs:s.heap.FunFrames base outer
 frf:∀b∈frs outer,H b=none
 hok:HOk P w H s.heap
 bare:AllBare s.gens
def CE(outer:List Env)(P:Program)(w:World)(H:Hp)(s:Shared)(Q:VK)(u:Value)(s':Shared):Prop:=
 ∃v H',s'.os=s.os∧AllBare s'.gens∧Un (frs outer) [] H H' s.heap s'.heap∧HOk P w H' s'.heap∧RelV v u∧Q v H'
def CR(CX:CXT)(outer:List Env)(P:Program)(w:World)(H:Hp)(s:Shared)(Q:VK)(E:XK)(r:Result)(s':Shared):Prop:=
 match r with
 | .ok (.ret u)=>CE outer P w H s Q u s'
 | .ok _=>False
 | .error e=>CX outer H s E e s'
structure FnOk(P:Program)(w:World)(K:PySem.W.Frag)(mg:Str→Option Value)(base:Heap)(CX:CXT)(k:Nat)(f:Addr)(fd:FuncData)(ps:List Str)(sp:Sp):Prop where
 len:∀vs H Q E,sp vs H Q E→vs.length=ps.length
 run:∀(A:Around) (outer:List Env) (s:Shared) (H:Hp) (args:Args) (us:List Value) (vs:List V) (Q:VK) (E:XK),Room k A→Env0 P w K mg base A outer s H→BindsTo s fd args (ps.zip us)→Vals vs us→sp vs H Q E→
  codeAny (model P w) A (.call (.ref f) args) (CR CX outer P w H s Q E) s
theorem FnOk.imp{P:Program}{w:World}{K:PySem.W.Frag}{mg:Str→Option Value}{base:Heap}{CX:CXT}{k:Nat}{f:Addr}{fd:FuncData}{ps:List Str}{sp sp':Sp}(F:FnOk P w K mg base CX k f fd ps sp)
  (h:∀vs H Q E,sp' vs H Q E→sp vs H Q E):FnOk P w K mg base CX k f fd ps sp':=
 ⟨fun vs H Q E q=>F.len vs H Q E (h _ _ _ _ q),fun A outer s H args us vs Q E hr he hb hv hs=>F.run A outer s H args us vs Q E hr he hb hv (h _ _ _ _ hs)⟩
section
variable{X:Cx}{pins:List (Addr×Obj)}{σ:St}{H:Hp}{s s':Shared}
theorem Inv.env0(I:Inv X pins σ H s):Env0 X.prog X.w X.K X.mg X.base X.A X.stack s H:=
 ⟨I.ok.frames,I.ok.mod,I.bs,Nat.le_trans I.ok.bsz I.sz,I.stack,I.stkFree,I.hok,I.bare⟩
theorem Inv.after{Q:VK}{u:Value}(I:Inv X pins σ H s)(h:CE X.stack X.prog X.w H s Q u s'):EP X pins σ Q u s':=by
 obtain⟨v,H',os,bare,un,hok,r,q⟩:=h
 obtain⟨hh,g,d,t,os'⟩:=s'
 obtain rfl:os'=s.os:=os
 exact⟨v,H',I.call (h':=hh) (g':=g) (d':=d) (t':=t) (ch:=[]) un hok bare (fun b z=>absurd z (by simp)),r,q⟩
end
def Zt3(sp:Sp)(dvs:List V)(E:XK)(t:TA):TE:=fun σ H Q=>t σ H fun vs H1=>sp (vs++dvs) H1 Q E
def Ye(K:PySem.W.Frag)(fd:FuncData)(ps:List Str)(ds:List Value):Prop:=
 ∀(s:Shared) (us:List Value),K.In s.heap→(us++ds).length=ps.length→BindsTo s fd ⟨us,[]⟩ (ps.zip (us++ds))
theorem Ye.all{K:PySem.W.Frag}{fd:FuncData}{ps:List Str}(h:∀us:List Value,us.length=ps.length→bindArgs fd ⟨us,[]⟩=pure (ps.zip us)):Ye K fd ps []:=fun s us _ hl=>by
 rw[List.append_nil] at hl ⊢
 exact .of_eq (h us hl)
def Fi(CX:CXT)(X:Cx)(E:XK):Prop:=∀(pins:List (Addr×Obj)) (σ:St) (H:Hp) (s:Shared) (e:Value) (s':Shared),Inv X pins σ H s→CX X.stack H s E e s'→X.xe e s'
section
variable{X:Cx}{CX:CXT}{k:Nat}{f C:Addr}{fd:FuncData}{ps:List Str}{sp:Sp}{dvs:List V}{ds:List Value}{E:XK}{x m:Str}{p pos apos:Pos}{e o:Expr}{es:List Expr}{ta:TE}{t:TA}
theorem Zh8{pins:List (Addr×Obj)}{σ:St}{H:Hp}{s:Shared}{Q:VK}{us:List Value}{vs:List V}(F:FnOk X.prog X.w X.K X.mg X.base CX k f fd ps sp)(hr:Room k X.A)(hb:Ye X.K fd ps ds)(hd:Vals dvs ds)(hx:Fi CX X E)
  (I:Inv X pins σ H s) (r:Vals vs us) (h:sp (vs++dvs) H Q E):wpAny (model X.prog X.w) X.A (call (.ref f) us) (EP X pins σ Q) X.xe s:=by
 have r2:Vals (vs++dvs) (us++ds):=r.append hd
 have hl:(us++ds).length=ps.length:=by rw[←r2.length];exact F.len _ _ _ _ h
 refine wpAny_call (codeAny_mono (F.run X.A X.stack s H ⟨us,[]⟩ (us++ds) (vs++dvs) Q E hr I.env0 (hb s us I.kIn hl) r2 h) fun r s' hq=>?_)
 cases r with
 | error e=>exact hx pins σ H s e s' I hq
 | ok fl=>
  cases fl with
  | ret u=>exact I.after hq
  | next=>exact False.elim hq
  | brk=>exact False.elim hq
  | cont=>exact False.elim hq
theorem Zo1(F:FnOk X.prog X.w X.K X.mg X.base CX k f fd ps sp)(hr:Room k X.A)(hg:Gl X x)(hm:X.mg x=some (.ref f))(hk:PySem.W.keepIn X.K (.ref f)=true)(hb:Ye X.K fd ps ds)(hd:Vals dvs ds)(hx:Fi CX X E)
  (ha:PA X (e::es) t) (hdb:(x==("__debug__":Str))=false:=by decide) (he:starEach (e::es) X.env=(false,eval e X.env)::starEach es X.env:=by rfl) (hpl:(backTo pos (starEach es X.env)).any (·.1)=false:=by rfl):
  PE X (.Call (.Name x p) (e::es) [] pos) (Zt3 sp dvs E t):=by
 intro pins s σ H Q I h
 refine wpAny_Call_Name_kw (Gc I hg hm ?_ hdb)
 refine PySem.W.callWith_K (h₀:=X.base) I.ok.mod.kin hk (thn (ha pos pins s σ H _ I h) fun us s1 ⟨vs,H1,I1,r,q⟩=>⟨I1.kIn,?_⟩) he hpl
 exact Zh8 F hr hb hd hx I1 r q
theorem Za7(F:FnOk X.prog X.w X.K X.mg X.base CX k f fd ps sp)(hr:Room k X.A)(hg:Gl X x)(hm:X.mg x=some (.ref f))(hk:PySem.W.keepIn X.K (.ref f)=true)(hb:Ye X.K fd ps ds)(hd:Vals dvs ds)(hx:Fi CX X E)
  (hdb:(x==("__debug__":Str))=false:=by decide):PE X (.Call (.Name x p) [] [] pos) (Zt3 sp dvs E tNil):=by
 intro pins s σ H Q I h
 refine wpAny_Call_Name_kw (Gc I hg hm ?_ hdb)
 exact PySem.W.callWith_K0 I.kIn hk (Zh8 (us:=[]) F hr hb hd hx I .nil h)
structure Mk(K:PySem.W.Frag)(C f:Addr):Prop where
 makes:PySem.W.makesIn K C=true
 init:PySem.W.findIn K (.ref C) "__init__"=some (some (.ref f))
 fn:PySem.W.isFn K (.ref f)=true
 kp:PySem.W.keepIn K (.ref C)=true
end
section
variable{X:Cx}{CX:CXT}{k:Nat}{f C:Addr}{fd:FuncData}{ps ks:List Str}{sp:Sp}{E:XK}{x m:Str}{p pos apos kpos:Pos}{e o:Expr}{es:List Expr}{kws:List Keyword}{te ta:TE}{t tk:TA}{nm:Option Str}
structure KBinds(K:PySem.W.Frag)(fd:FuncData)(ps ks:List Str)(g:List Value→List Value→List Value)(gV:List V→List V→List V):Prop where
 to:∀(s:Shared) (us ws:List Value),K.In s.heap→(g us ws).length=ps.length→BindsTo s fd ⟨us,ks.zip ws⟩ (ps.zip (g us ws))
 rel:∀{vs:List V} {us:List Value} {zs:List V} {ws:List Value},Vals vs us→Vals zs ws→Vals (gV vs zs) (g us ws)
variable{g:List Value→List Value→List Value}{gV:List V→List V→List V}
end
structure FnScope(N P:List Str)(sc:Scope):Prop where
 kind:sc.kind= .function
 co:sc.isCoroutine=false
 gen:sc.isGenerator=false
 nd:N.Nodup
 pre:N.take P.length=P
 par:∀x∈P,sc.names.lookup x=some .local∨sc.names.lookup x=some .cell
 nofree:∀y∈sc.names,y.2≠ .free
theorem Nz{kindOf:Str→Option NameKind}{x:Str}:∀{binds:List (Str×Value)} {m:Str→Option Value},(∀v,(x,v)∉binds)→bindL kindOf binds m x=m x
 | [],_,_=>rfl
 |(n,v)::r,m,h=>by
  unfold bindL
  rw[Nz fun w hw=>h w (List.mem_cons_of_mem _ hw)]
  split
  ·have:x≠n:=by rintro rfl;exact h v List.mem_cons_self
   simp[this]
  ·rfl
theorem J6{kindOf:Str→Option NameKind}{x:Str}:∀{binds:List (Str×Value)} {m:Str→Option Value},(∀v,(x,v)∉binds)→bindC kindOf binds m x=m x
 | [],_,_=>rfl
 |(n,v)::r,m,h=>by
  unfold bindC
  rw[J6 fun w hw=>h w (List.mem_cons_of_mem _ hw)]
  split
  ·rfl
  ·have:x≠n:=by rintro rfl;exact h v List.mem_cons_self
   simp[this]
theorem Nh{kindOf:Str→Option NameKind}{x:Str}{v:Value}:∀{P:List Str} {vs:List Value} {i:Nat} {m:Str→Option Value},P.Nodup→P[i]?=some x→vs[i]?=some v→kindOf x=some .local→
  bindL kindOf (P.zip vs) m x=some v
 | [],_,_,_,_,h,_,_=>by simp at h
 | _::_,[],_,_,_,_,h,_=>by simp at h
 | p::P,w::vs,0,m,nd,h1,h2,hk=>by
  simp at h1 h2;subst h1;subst h2
  show bindL kindOf ((p,w)::P.zip vs) m p=_
  unfold bindL
  rw[Nz fun v hv=>(List.nodup_cons.mp nd).1 (List.of_mem_zip hv).1,if_pos hk]
  simp
 | p::P,w::vs,i+1,m,nd,h1,h2,hk=>by
  show bindL kindOf ((p,w)::P.zip vs) m x=_
  unfold bindL
  exact Nh (i:=i) (List.nodup_cons.mp nd).2 (by simpa using h1) (by simpa using h2) hk
theorem Nt{kindOf:Str→Option NameKind}{x:Str}{v:Value}:∀{P:List Str} {vs:List Value} {i:Nat} {m:Str→Option Value},P.Nodup→P[i]?=some x→vs[i]?=some v→kindOf x≠some .local→
  bindC kindOf (P.zip vs) m x=some v
 | [],_,_,_,_,h,_,_=>by simp at h
 | _::_,[],_,_,_,_,h,_=>by simp at h
 | p::P,w::vs,0,m,nd,h1,h2,hk=>by
  simp at h1 h2;subst h1;subst h2
  show bindC kindOf ((p,w)::P.zip vs) m p=_
  unfold bindC
  rw[J6 fun v hv=>(List.nodup_cons.mp nd).1 (List.of_mem_zip hv).1,if_neg hk]
  simp
 | p::P,w::vs,i+1,m,nd,h1,h2,hk=>by
  show bindC kindOf ((p,w)::P.zip vs) m x=_
  unfold bindC
  exact Nt (i:=i) (List.nodup_cons.mp nd).2 (by simpa using h1) (by simpa using h2) hk
noncomputable def start(N:List Str)(vs:List V):St:=vs.map some++List.replicate (N.length - vs.length) none
def cxOf(CX:CXT)(P:Program)(w:World)(K:PySem.W.Frag)(mg:Str→Option Value)(base:Heap)(N:List Str)(qual:Str)(scope:Scope)(f:Addr)(cd:Value)(A:Around)(outer:List Env)(s:Shared)(H:Hp)(E:XK):Cx where
 prog:=P
 w:=w
 K:=K
 mg:=mg
 base:=base
 A:=A.deeper (envOfC qual scope s.heap.objs.size f cd)
 N:=N
 s₀:=s
 H₀:=H
 env:=envOfC qual scope s.heap.objs.size f cd
 outer:=outer
 stack:=envOfC qual scope s.heap.objs.size f cd::outer
 ex:=[]
 calm:=true
 fn:=fun _=>true
 pn:=[]
 xe:=fun e s'=>wpAny (model P w) (A.deeper (envOfC qual scope s.heap.objs.size f cd)) (leaving (envOfC qual scope s.heap.objs.size f cd) e) (fun _ s''=>CX outer H s E e s'') (fun e' s''=>CX outer H s E e' s'') s'
theorem Fu{sc:Scope}{n:Nat}{x:Str}(h:sc.names.lookup x=some .cell):∃c,(cellsFrom n sc.names []).lookup x=some c:=by
 have q:=PySem.W.cellsFrom_some sc.names n [] (.inl h)
 exact Option.isSome_iff_exists.mp q
theorem Z39{CX:CXT}{P:Program}{w:World}{K:PySem.W.Frag}{mg:Str→Option Value}{base:Heap}{N ps:List Str}{qual:Str}{scope:Scope}{f:Addr}{cd:Value}{A:Around}{outer:List Env}{s s1:Shared}{H:Hp}{E:XK}{us:List Value}{vs:List V}
  (S:FnScope N ps scope) (hd:A.handled=none) (e0:Env0 P w K mg base A outer s H) (hl:vs.length=ps.length) (r:Vals vs us)
  (x:InCallC s s.heap.objs.size (bindL (envOfC qual scope s.heap.objs.size f cd).kindOf (ps.zip us) fun _=>none) (cellsFrom (s.heap.objs.size+1) scope.names []) (bindC (envOfC qual scope s.heap.objs.size f cd).kindOf (ps.zip us) fun _=>none) s1):
  Inv (cxOf CX P w K mg base N qual scope f cd A outer s H E) [] (start N vs) H s1:=by
 have hpl:ps.length≤N.length:=by have:=congrArg List.length S.pre;rw[List.length_take] at this;omega
 obtain⟨h1,tk,rfl,hk⟩:=x.done
 have noA:∀b:Addr,b∉(cxOf CX P w K mg base N qual scope f cd A outer s H E).ex:=fun b z=>absurd (show b∈([]:List Addr) from z) (by simp)
 refine⟨⟨e0.mod,S.kind,rfl,rfl,Nat.le_refl _,fun y z c h1 h2=>?_,fun y hy=>?_,fun y c _ h=>?_,fun _=>hd,Around.frames_deeper e0.frames,.inr ⟨rfl,rfl⟩,fun b z=>absurd z (noA b),e0.bs,e0.bsz,fun b _ _=>noA b,fun b z=>absurd z (noA b),e0.funs,e0.frf⟩,
  rfl,e0.bare,Un.kept hk,⟨_,x.toInCall.ns,fun i y v h1 h2 h3=>?_⟩,fun y c h=>⟨_,x.cell y c h⟩,e0.hok.fresh (Nat.le_refl _),fun y c h=>?_,fun p hp=>absurd (show p∈([]:List (Addr×Obj)) from hp) (by simp),e0.hok.kept hk,?_⟩
 ·exact name_of_addr x.apart (PySem.mem_of_lookup h1) (PySem.mem_of_lookup h2)
 ·have hy:scope.names.lookup y=some .cell∨scope.names.lookup y=some .free:=hy
  rcases hy with hy | hy
  ·exact Fu hy
  ·exact absurd rfl (S.nofree _ (PySem.mem_of_lookup hy))
 ·exact Nat.le_of_lt (x.above y c (PySem.mem_of_lookup h))
 ·have hi:i<vs.length:=by
   unfold start at h2
   by_cases hi:i<vs.length
   ·exact hi
   ·rw[List.getElem?_append_right (by simpa using hi)] at h2
    rw[List.getElem?_replicate] at h2
    split at h2<;>cases h2
  have ha:vs[i]?=some v:=by
   unfold start at h2
   rw[List.getElem?_append_left (by simpa using hi),List.getElem?_map] at h2
   cases e:vs[i]? with
   | none=>rw[e] at h2;cases h2
   | some a=>rw[e] at h2;cases h2;rfl
  obtain⟨u,hu,rv⟩:=r.get ha
  have hp:ps[i]?=some y:=by
   rw[←S.pre,List.getElem?_take_of_lt (by omega)];exact h1
  have ndP:ps.Nodup:=by rw[←S.pre];exact S.nd.sublist (List.take_sublist _ _)
  refine⟨u,rv,?_⟩
  rcases S.par y (List.mem_of_getElem? hp) with k | k
  ·exact .inl ⟨k,Nh ndP hp hu k⟩
  ·obtain⟨c,e⟩:=Fu (n:=s.heap.objs.size+1) k
   refine .inr ⟨.inl k,c,e,?_⟩
   have q:=x.cell y c e
   rw[Nt ndP hp hu (by show scope.names.lookup y≠_;rw[k];decide)] at q
   exact q
 ·exact e0.hok.fresh (Nat.le_of_lt (x.above y c (PySem.mem_of_lookup h)))
 ·unfold start
  show _=N.length
  rw[List.length_append,List.length_map,List.length_replicate]
  omega
theorem Y55{CX:CXT}{P:Program}{w:World}{K:PySem.W.Frag}{mg:Str→Option Value}{base:Heap}{k:Nat}{f:Addr}{name qual:Str}{params:Arguments}{body:List Stmt}{scope:Scope}{dV kV doc pm cdv ct oc:Value}{an od:Option Addr}
  {osl:Array (Option Value)} {N ps:List Str} {sp:Sp} (lk:K.lookup f=some ⟨oc,od,.func (PySem.W.fnOf name qual params body scope dV kV doc pm an cdv ct),osl⟩) (hcd:PySem.W.codeIn K cdv qual=true) (S:FnScope N ps scope)
  (len:∀vs H Q E,sp vs H Q E→vs.length=ps.length)
  (hbody:∀(A:Around) (outer:List Env) (s:Shared) (H:Hp) (vs:List V) (Q:VK) (E:XK),Room k (A.deeper (envOfC qual scope s.heap.objs.size f cdv))→sp vs H Q E→
   ∃t,PSs (cxOf CX P w K mg base N qual scope f cdv A outer s H E) body t∧t {nx:=fun _ H'=>Q .non H',rt:=Q} (start N vs) H):
  FnOk P w K mg base CX (k+1) f (PySem.W.fnOf name qual params body scope dV kV doc pm an cdv ct) ps sp:=by
 refine⟨len,fun A outer s H args us vs Q E hr e0 hb r hsp=>?_⟩
 have hl:=len _ _ _ _ hsp
 have KX:K.In s.heap:=e0.mod.kin.keeps fun b o e=>(e0.bs b o e).1
 have lim:s.heap.NoLimit:=e0.mod.nolimit.keeps fun b o e=>(e0.bs b o e).1
 have hkind:∀y∈ps.zip us,scope.names.lookup y.1=some .local∨(scope.names.lookup y.1=some .cell∧((cellsFrom (s.heap.objs.size+1) scope.names []).lookup y.1).isSome=true):=fun⟨n,v⟩ hy=>by
  rcases S.par n (List.of_mem_zip hy).1 with q | q
  ·exact .inl q
  ·exact .inr ⟨q,PySem.W.cellsFrom_some _ _ _ (.inl q)⟩
 refine codeAny_call_function hr.depth (KX _ _ lk) rfl S.co S.gen rfl (PySem.W.codeRec_of KX hcd) (hb _ _ _ _ ?_)
 refine wpAny_newFunctionEnv_cells S.kind hkind fun env he s1 x=>?_
 subst he
 refine⟨lim.keeps x.toInCall.keep,codeAny_func ?_⟩
 obtain⟨t,ht,hq⟩:=hbody A outer s H vs Q E (hr.deeper _) hsp
 have I:Inv (cxOf CX P w K mg base N qual scope f cdv A outer s H E) [] (start N vs) H s1:=Z39 S hr.hd e0 hl r x
 refine wpAny_mono (ht [] s1 (start N vs) H _ I hq) (fun fl s' hs=>?_) fun e s' hs=>hs
 have fin:∀{σ':St} {H':Hp} {v:V} {u:Value},Inv (cxOf CX P w K mg base N qual scope f cdv A outer s H E) [] σ' H' s'→RelV v u→Q v H'→CE outer P w H s Q u s':=
  fun{σ' H' v u} J rv q=>⟨v,H',J.os,J.bare,J.base,J.hok,rv,q⟩
 cases fl with
 | ret u=>
  obtain⟨v,σ',H',J,rv,q⟩:=hs
  exact fin J rv q
 | next=>
  obtain⟨σ',H',J,q⟩:=hs
  exact fin (v:=V.non) (u:=Value.none) J rfl q
 | brk=>
  obtain⟨_,_,_,q⟩:=hs
  exact False.elim q
 | cont=>
  obtain⟨_,_,_,q⟩:=hs
  exact False.elim q
section
variable{X:Cx}{x:Str}{p pos:Pos}{e:Expr}{es:List Expr}{t:TA}{id T:String}{r:List V→Hp→VK→Prop}
def tCB(r:List V→Hp→VK→Prop)(t:TA):TE:=fun σ H Q=>t σ H fun vs H1=>r vs H1 Q
theorem Ri(hc:Wt X (.builtin id) r)(hg:Gl X x)(hm:X.mg x=none)(hv:bootBuiltins x=some (.builtin id))(ha:PA X (e::es) t)(hn:x≠"__name__":=by decide)(hdb:(x==("__debug__":Str))=false:=by decide)
  (he:starEach (e::es) X.env=(false,eval e X.env)::starEach es X.env:=by rfl) (hpl:(backTo pos (starEach es X.env)).any (·.1)=false:=by rfl):PE X (.Call (.Name x p) (e::es) [] pos) (tCB r t):=by
 intro pins s σ H Q I h
 refine wpAny_Call_Name_kw (Q3 I hg hm hv ?_ hn hdb)
 exact PyProof.Rows.callWith_builtin1 (thn (ha pos pins s σ H _ I h) fun us s1 zz30=>by obtain⟨vs,H1,I1,r1,q1⟩:=zz30;exact hc pins s1 σ H1 vs us Q I1 r1 q1) he hpl
theorem Ti(hc:Wt X (.type T) r)(hg:Gl X x)(hm:X.mg x=none)(hv:bootBuiltins x=some (.type T))(ha:PA X (e::es) t)(hn:x≠"__name__":=by decide)(hdb:(x==("__debug__":Str))=false:=by decide)
  (he:starEach (e::es) X.env=(false,eval e X.env)::starEach es X.env:=by rfl) (hpl:(backTo pos (starEach es X.env)).any (·.1)=false:=by rfl):PE X (.Call (.Name x p) (e::es) [] pos) (tCB r t):=by
 intro pins s σ H Q I h
 refine wpAny_Call_Name_kw (Q3 I hg hm hv ?_ hn hdb)
 exact PyProof.Rows.callWith_type1 (thn (ha pos pins s σ H _ I h) fun us s1 zz31=>by obtain⟨vs,H1,I1,r1,q1⟩:=zz31;exact hc pins s1 σ H1 vs us Q I1 r1 q1) he hpl
end
end L2
namespace HT
open PySem PyProof.Rows
section
open PySem.SeqAt
open PySem.AutoSeq1 (wpAny_loadPart')
open PySem.MeetsSeq PySem.MeetsSeq2 PySem.MeetsSeq3
end
section
variable{prog:Program}{w:World}{A:Around}{E:Value→Shared→Prop}{s:Shared}
theorem Zo9{t b:Addr}{vs ws:List Value}{Q:Value→Shared→Prop}(ht:IsTup s.heap t vs.toArray)(hb:IsTup s.heap b ws.toArray)(hv:vs≠[])
  (h1:ws=[]→Q (.ref t) s) (h2:ws≠[]→Q (.ref s.heap.objs.size) {s with heap:=s.heap.push {cls:= .type "tuple",data:= .seq (vs++ws).toArray}})
  (hsz:vs.length+ws.length≤sizeLine):wpAny (model prog w) A (binaryOp .Add (.ref t) (.ref b)) Q E s:=by
 obtain⟨⟨cls,dd,data,sl⟩,ho,hc,n,hd⟩:=id ht
 obtain⟨⟨cls2,dd2,data2,sl2⟩,ho2,hc2,n2,hd2⟩:=id hb
 simp only at hc hd hc2 hd2
 subst hc hd hc2 hd2
 have e:vs.toArray++ws.toArray=(vs++ws).toArray:=by simp
 by_cases hw:ws=[]
 ·exact concat_meets ⟨_,ho,rfl⟩ ⟨_,ho2,rfl⟩ noFill_tuple_add seq_tuple_add PySem.F.slot_tuple_add PySem.F.entry_tuple_add (PySem.F.args_tuple_add_2 _ _)
   (tuple_addW1 t b vs.toArray ws.toArray n n2 dd dd2 sl sl2 (by simpa using hv) (by simp[hw])) ⟨ho,ho2,h1 hw⟩
 ·refine concat_meets ⟨_,ho,rfl⟩ ⟨_,ho2,rfl⟩ noFill_tuple_add seq_tuple_add PySem.F.slot_tuple_add PySem.F.entry_tuple_add (PySem.F.args_tuple_add_2 _ _)
   (tuple_addW2 t b vs.toArray ws.toArray n n2 dd dd2 sl sl2 (by simpa using hv) (by simpa using hw) (by rw[List.size_toArray,List.size_toArray];exact hsz)) ⟨ho,ho2,?_⟩
  rw[e]
  exact h2 hw
noncomputable def sIx(n d:Nat):Option Int→Nat
 | none=>d
 | some v=>if v<0 then(v+(n:Int)).toNat else min v.toNat n
theorem Z73(n d k:Nat):sIx n d (some (k:Int))=min k n:=by
 show(if (k:Int)<0 then((k:Int)+(n:Int)).toNat else min (k:Int).toNat n)=min k n
 rw[if_neg (by omega),Int.toNat_natCast]
theorem Zy9(n d:Nat)(hd:d≤n)(o:Option Int):sIx n d o≤n:=by
 cases o with
 | none=>exact hd
 | some v=>
  show(if v<0 then(v+(n:Int)).toNat else min v.toNat n)≤n
  by_cases hv:v<0
  ·rw[if_pos hv];omega
  ·rw[if_neg hv];exact Nat.min_le_right _ _
theorem Z37(v:Int)(n d:Nat):(if v<0 then max (v+(n:Int)) 0 else min v (n:Int))=((sIx n d (some v):Nat):Int):=by
 show(if v<0 then max (v+(n:Int)) 0 else min v (n:Int))=(((if v<0 then(v+(n:Int)).toNat else min v.toNat n):Nat):Int)
 by_cases hv:v<0
 ·simp only[if_pos hv];omega
 ·simp only[if_neg hv];omega
theorem Cw(lo hi:Option Int)(n:Nat):Builtin.Slice.sliceAdjust lo hi 1 (n:Int)=(((sIx n 0 lo:Nat):Int),((sIx n n hi:Nat):Int)):=by
 have h1:¬((1:Int)<0):=by omega
 unfold Builtin.Slice.sliceAdjust
 simp only[h1,if_false]
 refine Prod.ext ?_ ?_
 ·cases lo with
  | none=>rfl
  | some v=>exact Z37 v n 0
 ·cases hi with
  | none=>rfl
  | some v=>exact Z37 v n n
theorem C8(i j:Nat):Builtin.Slice.slicePlaces (i:Int) (j:Int) 1=j - i:=by
 unfold Builtin.Slice.slicePlaces
 have h1:(1:Int) >0:=by omega
 simp only[h1,if_true,Int.ediv_one]
 split<;>omega
theorem Qu{v:Value}{o:Option Int}{Q:Option Int→Shared→Prop}(p:IsPart v o)(h:Q o s):wpAny (model prog w) A (Builtin.Slice.slicePartIndex v) Q E s:=by
 cases p with
 | none=>exact slicePart_none h
 | int i t=>exact slicePart_int h
theorem Wr{sl:Addr}{vl vu:Value}{lo hi:Option Int}{n:Nat}{Q:Int×Int×Nat→Shared→Prop}(hs:s.heap.IsSliceOf sl vl vu .none)(pl:IsPart vl lo)(pu:IsPart vu hi)
  (h:Q (((sIx n 0 lo:Nat):Int),1,sIx n n hi - sIx n 0 lo) s):wpAny (model prog w) A (Builtin.Slice.sliceApplied (.ref sl) (pure (n:Int))) Q E s:=by
 obtain⟨os,hos,hcs,hds⟩:=id hs
 unfold Builtin.Slice.sliceApplied Builtin.Slice.sliceFields
 refine wpAny_bind (wpAny_bind (wpAny_field hos hds (x:=vl) rfl (wpAny_bind (wpAny_field hos hds (x:=vu) rfl (wpAny_bind (wpAny_field hos hds (x:= .none) rfl (wpAny_pure ?_)))))))
 refine wpAny_bind (slicePart_none ?_)
 show wpAny _ _ (if ((1:Int)==0)=true then _ else _) _ _ s
 rw[if_neg (by decide)]
 refine wpAny_bind (Qu pl (wpAny_bind (Qu pu (wpAny_bind (wpAny_pure ?_)))))
 show wpAny _ _ (match Builtin.Slice.sliceAdjust lo hi 1 (n:Int) with | (lo,hi)=>pure (lo,(1:Int),Builtin.Slice.slicePlaces lo hi 1)) _ _ s
 rw[Cw lo hi n]
 show wpAny _ _ (pure (((sIx n 0 lo:Nat):Int),(1:Int),Builtin.Slice.slicePlaces ((sIx n 0 lo:Nat):Int) ((sIx n n hi:Nat):Int) 1)) _ _ s
 rw[C8]
 exact wpAny_pure h
theorem Zc1(xs:Array Value)(i k:Nat):((List.range k).filterMap fun(m:Nat)=>xs[((i:Int)+(m:Int) * 1).toNat]?).toArray=((xs.toList.drop i).take k).toArray:=by
 have e:(fun(m:Nat)=>xs[((i:Int)+(m:Int) * 1).toNat]?)=fun m=>xs[i+m]?:=by
  funext m
  have:((i:Int)+(m:Int) * 1).toNat=i+m:=by omega
  rw[this]
 rw[e]
 have:=pick_run xs i k
 rw[List.filterMap_map] at this
 have e2:((fun x=>xs[x]?) ∘ fun x=>i+x)=fun m=>xs[i+m]?:=rfl
 rw[e2] at this
 rw[this]
theorem Sb{t sl:Addr}{items:Array Value}{vl vu:Value}{lo hi:Option Int}{Q:Value→Shared→Prop}(ht:IsTup s.heap t items)(hs:s.heap.IsSliceOf sl vl vu .none)(pl:IsPart vl lo)(pu:IsPart vu hi)
  (hw:¬(sIx items.size 0 lo=0∧sIx items.size items.size hi=items.size))
  (h:Q (.ref s.heap.objs.size) {s with heap:=s.heap.push {cls:= .type "tuple",data:= .seq ((items.toList.drop (sIx items.size 0 lo)).take (sIx items.size items.size hi - sIx items.size 0 lo)).toArray}})
  (hsz:items.size≤sizeLine):wpAny (model prog w) A (getItem (.ref t) (.ref sl)) Q E s:=by
 have htake:sizeOk (.seq ((items.toList.drop (sIx items.size 0 lo)).take (sIx items.size items.size hi - sIx items.size 0 lo)).toArray):=by
  show((items.toList.drop (sIx items.size 0 lo)).take (sIx items.size items.size hi - sIx items.size 0 lo)).toArray.size≤sizeLine
  rw[List.size_toArray,List.length_take,List.length_drop,Array.length_toList]
  omega
 have hj:sIx items.size items.size hi≤items.size:=Zy9 _ _ (Nat.le_refl _) hi
 obtain⟨os,hos,hcs,hds⟩:=id hs
 have hTs:s.TypeIs (.ref sl) "slice":=⟨os,hos,hcs⟩
 unfold getItem
 try with_reducible refine wpAny_holding ?_
 first | refine wpAny_bind (wpAny_pure ?_) | skip
 refine wpAny_bind (wpAny_sequenceKey ht.typeIs (by decide) ?_)
 refine wpAny_bind (wpAny_callSpecial?_slot (name:=Str.ofString "__getitem__") ht.typeIs PyProof.Rows.slot_tuple_getitem
  (wpAny_call_entry PyProof.Rows.slot_tuple_getitem ht.typeIs entry_tuple_getitem ?_ (args_tuple_getitem _ _)))
 show wpAny _ _ (Builtin.Tuple.tupleItemsOf (.ref t) >>=_) _ _ s
 refine wpAny_bind (tupleItemsOf_ ht ?_)
 refine wpAny_bind (wpAny_typeOf hTs ?_)
 rw[if_pos (by decide)]
 refine wpAny_bind (Wr hs pl pu ?_)
 have hno:¬((((sIx items.size 0 lo:Nat):Int)==0&&(1:Int)==1&&(sIx items.size items.size hi - sIx items.size 0 lo)==items.size)=true):=by
  intro q
  rw[Bool.and_eq_true,Bool.and_eq_true] at q
  have q1:((sIx items.size 0 lo:Nat):Int)=0:=eq_of_beq q.1.1
  have q2:sIx items.size items.size hi - sIx items.size 0 lo=items.size:=eq_of_beq q.2
  exact hw ⟨by omega,by omega⟩
 show wpAny _ _ (if (((sIx items.size 0 lo:Nat):Int)==0&&(1:Int)==1&&(sIx items.size items.size hi - sIx items.size 0 lo)==items.size)=true then _ else _) _ _ s
 rw[if_neg hno,Zc1]
 first
  | exact wpAny_bind (m:=Builtin.Tuple.tupleExact _) (wpAny_newObj_type (wpAny_pure ⟨_,rfl,wpAny_pure h⟩) htake)
  | exact wpAny_bind (m:=Builtin.Tuple.tupleExact _) (wpAny_newObj_type (wpAny_bind (wpAny_pure (wpAny_pure ⟨_,rfl,wpAny_pure h⟩))) htake)
  | exact wpAny_bind (wpAny_bind (m:=Builtin.Tuple.tupleExact _) (wpAny_newObj_type (wpAny_pure (wpAny_pure ⟨_,rfl,wpAny_pure h⟩)) htake))
  | exact wpAny_bind (wpAny_bind (m:=Builtin.Tuple.tupleExact _) (wpAny_newObj_type (wpAny_pure ⟨_,rfl,wpAny_pure h⟩) htake))
end
end HT
namespace L2
open PySem PySem.Spec PyProof.Rows
abbrev TO:=St→Hp→(Option Int→Hp→Prop)→Prop
def PO(X:Cx)(e:Option Expr)(t:TO):Prop:=
 ∀(pins:List (Addr×Obj)) (s:Shared) (σ:St) (H:Hp) (Q:Option Int→Hp→Prop),Inv X pins σ H s→t σ H Q→
  wpAny (model X.prog X.w) X.A (evalPart e X.env) (fun u s'=>∃o H',Inv X pins σ H' s'∧IsPart u o∧Q o H') X.xe s
def Zk0:TO:=fun _ H Q=>Q none H
def Y34(t:TE):TO:=fun σ H Q=>t σ H fun x H1=>∃i,x= .int i∧Q (some i) H1
section
variable{X:Cx}{e:Expr}{te:TE}{lo hi:Option Expr}{tl th:TO}{pos p2:Pos}
theorem Zn0:PO X none Zk0:=by
 intro pins s σ H Q I h
 rw[evalPart_none]
 exact wpAny_pure ⟨none,H,I,.none,h⟩
theorem Zs1(h:PE X e te):PO X (some e) (Y34 te):=by
 intro pins s σ H Q I hw
 rw[evalPart_some]
 refine thn (h pins s σ H _ I hw) fun u s1 zz32=>?_
 obtain⟨x,H1,I1,r1,q1⟩:=zz32
 obtain⟨i,rfl,q⟩:=q1
 obtain⟨t,rfl⟩:=r1
 exact⟨some i,H1,I1,.int i t,q⟩
def SlR(X:Cx)(r:V→Option Int→Option Int→Hp→VK→Prop):Prop:=
 ∀(pins:List (Addr×Obj)) (s:Shared) (σ:St) (H:Hp) (x:V) (v vl vu:Value) (lo hi:Option Int) (sl:Addr) (Q:VK),Inv X pins σ H s→RelV x v→s.heap.IsSliceOf sl vl vu .none→IsPart vl lo→IsPart vu hi→r x lo hi H Q→
  ∃T id,typeLookup (.type T) "__getitem__"=pure (some (.builtin id))∧s.TypeIs v T∧wpAny (model X.prog X.w) X.A (getItem v (.ref sl)) (EP X pins σ Q) X.xe s
def tSl(r:V→Option Int→Option Int→Hp→VK→Prop)(te:TE)(tl th:TO):TE:=fun σ H Q=>te σ H fun x H1=>tl σ H1 fun l H2=>th σ H2 fun u H3=>r x l u H3 Q
theorem Gi{r:V→Option Int→Option Int→Hp→VK→Prop}(hr:SlR X r)(he:PE X e te)(hl:PO X lo tl)(hu:PO X hi th):PE X (.Subscript e (.Slice lo hi none p2) pos) (tSl r te tl th):=by
 intro pins s σ H Q I h
 refine Subscript_ (thn (he pins s σ H _ I h) fun v s1 zz33=>?_)
 obtain⟨x,H1,I1,r1,q1⟩:=zz33
 refine wpAny_Slice (thn (hl pins s1 σ H1 _ I1 q1) fun vl s2 ⟨l,H2,I2,pl,q2⟩=>thn (hu pins s2 σ H2 _ I2 q2) fun vu s3 zz35=>?_)
 obtain⟨u,H3,I3,pu,q3⟩:=zz35
 rw[evalPart_none]
 refine wpAny_pure ?_
 have I4:Inv X pins σ H3 {s3 with heap:=s3.heap.push {cls:= .type "slice",data:= .fields #[vl,vu,.none]}}:=I3.kept (t':=s3.toks) fun b ob q=>Heap.get?_push_of_some _ q
 obtain⟨T,id,hT,ht,hg⟩:=hr pins {s3 with heap:=s3.heap.push {cls:= .type "slice",data:= .fields #[vl,vu,.none]}} σ H3 x v vl vu l u s3.heap.objs.size Q I4 r1 (Heap.IsSliceOf.new ..) pl pu q3
 show wpAny (model X.prog X.w) X.A (subscriptTail e (.Slice lo hi none p2) v (.ref s3.heap.objs.size)) (EP X pins σ Q) X.xe {s3 with heap:=s3.heap.push {cls:= .type "slice",data:= .fields #[vl,vu,.none]}}
 exact tail_any (ops:=[.ref s3.heap.objs.size,v]) ht hT hg (by with_unfolding_all rfl)
noncomputable def cutV(xs:List V)(lo hi:Option Int):List V:=(xs.drop (HT.sIx xs.length 0 lo)).take (HT.sIx xs.length xs.length hi - HT.sIx xs.length 0 lo)
theorem Qc(xs:List V)(lo hi:Option Int):(cutV xs lo hi).length≤xs.length:=by
 unfold cutV
 rw[List.length_take,List.length_drop]
 omega
def rSlT(K:PySem.W.Frag):V→Option Int→Option Int→Hp→VK→Prop:=fun x lo hi H Q=>∃a xs,x= .ref a∧SqT K H a xs∧
 ¬(HT.sIx xs.length 0 lo=0∧HT.sIx xs.length xs.length hi=xs.length)∧∀p,H p=none→Q (.ref p) (upd H p (.tup (cutV xs lo hi)))
theorem Zi1:SlR X (rSlT X.K):=by
 intro pins s σ H x v vl vu lo hi sl Q I rx hs pl pu h
 obtain⟨a,xs,rfl,hx,hw,q⟩:=h
 cases rx
 obtain⟨its,r,ht,hz⟩:=I.tuple hx
 have hlen:its.toArray.size=xs.length:=by rw[List.size_toArray];exact r.length.symm
 refine⟨"tuple",_,PyProof.Rows.slot_tuple_getitem.lookup,ht.typeIs,?_⟩
 refine HT.Sb ht hs pl pu (by rw[hlen];exact hw) ?_ (by rw[hlen];exact hz)
 rw[hlen]
 refine⟨.ref s.heap.objs.size,_,I.laid (t':=s.toks) (o:= .tup (cutV xs lo hi)) (fun b ob q=>Heap.get?_push_of_some _ q) (Nat.le_refl _) ?_,rfl,q _ (I.hok.fresh (Nat.le_refl _))⟩
 exact⟨Nat.le_trans (Qc xs lo hi) hz,_,(r.drop (HT.sIx xs.length 0 lo)).take (HT.sIx xs.length xs.length hi - HT.sIx xs.length 0 lo),IsTup.new _ _⟩
def Y57(K:PySem.W.Frag):R2:=fun x y H Q=>∃a b xs ys,x= .ref a∧y= .ref b∧SqT K H a xs∧SqT K H b ys∧xs≠[]∧xs.length+ys.length≤sizeLine∧
 (ys=[]→Q (.ref a) H)∧(ys≠[]→∀p,H p=none→Q (.ref p) (upd H p (.tup (xs++ys))))
theorem Vals.nil_iff{xs:List V}{us:List Value}(r:Vals xs us):us=[]↔xs=[]:=by
 cases r with
 | nil=>simp
 | cons _ _=>simp
theorem Zs7:OpR X (binaryOp .Add) (Y57 X.K):=by
 intro pins s σ H x y v u Q I rx ry h
 obtain⟨a,b,xs,ys,rfl,rfl,ha,hb,hx,hz,q1,q2⟩:=h
 cases rx
 cases ry
 obtain⟨its,r1,p1,_⟩:=I.tuple ha
 obtain⟨its2,r2,p2,_⟩:=I.tuple hb
 refine HT.Zo9 p1 p2 (fun z=>hx (r1.nil_iff.mp z)) (fun z=>⟨.ref a,H,I,rfl,q1 (r2.nil_iff.mp z)⟩) (fun z=>?_) (by rw[←r1.length,←r2.length];exact hz)
 refine⟨.ref s.heap.objs.size,_,I.laid (t':=s.toks) (o:= .tup (xs++ys)) (fun b ob q=>Heap.get?_push_of_some _ q) (Nat.le_refl _) ?_,rfl,q2 (fun w=>z (r2.nil_iff.mpr w)) _ (I.hok.fresh (Nat.le_refl _))⟩
 exact⟨by rw[List.length_append];exact hz,_,r1.append r2,IsTup.new _ _⟩
end
noncomputable def ixN(n:Nat)(i:Int):Option Nat:=if 0≤i then(if i<n then some i.toNat else none) else if -(n:Int)≤i then some (i+n).toNat else none
noncomputable def atI{α:Type}(xs:List α)(i:Int):Option α:=(ixN xs.length i).bind fun j=>xs[j]?
theorem Z15{n:Nat}{i:Int}{j:Nat}(h:ixN n i=some j):seqIndex? i n=some j∧j<n∧ -(n:Int)≤i∧i<n:=by
 unfold ixN at h
 by_cases h0:0≤i
 ·rw[if_pos h0] at h
  by_cases h1:i<n
  ·rw[if_pos h1] at h
   have e:i.toNat=j:=Option.some.inj h
   exact⟨by rw[seqIndex_of h0 h1,e],by omega,by omega,h1⟩
  ·rw[if_neg h1] at h;cases h
 ·rw[if_neg h0] at h
  by_cases h1:-(n:Int)≤i
  ·rw[if_pos h1] at h
   have e:(i+n).toNat=j:=Option.some.inj h
   exact⟨by rw[seqIndex_neg (by omega) h1,e],by omega,h1,by omega⟩
  ·rw[if_neg h1] at h;cases h
theorem G1{α:Type}{xs:List α}{i:Int}{v:α}(h:atI xs i=some v):∃j,seqIndex? i xs.length=some j∧xs[j]?=some v∧j<xs.length∧ -(xs.length:Int)≤i∧i<xs.length:=by
 unfold atI at h
 cases e:ixN xs.length i with
 | none=>rw[e] at h;cases h
 | some j=>
  rw[e] at h
  obtain⟨h1,h2,h3,h4⟩:=Z15 e
  exact⟨j,h1,h,h2,h3,h4⟩
theorem S6{α:Type}{xs:List α}{j:Nat}{v:α}(h:xs[j]?=some v):atI xs (j:Int)=some v:=by
 have hj:j<xs.length:=(List.getElem?_eq_some_iff.mp h).1
 have e:ixN xs.length (j:Int)=some j:=by
  unfold ixN
  rw[if_pos (by omega),if_pos (by omega)];simp
 unfold atI;rw[e];exact h
def Z34(b:Expr):Prop:=∀o i,subscripted b false o i=operate [o,i] (getItem o i)
def IxR(X:Cx)(r:R2):Prop:=
 ∀(value slice:Expr) (pins:List (Addr×Obj)) (s:Shared) (σ:St) (H:Hp) (x y:V) (v u:Value) (Q:VK),Inv X pins σ H s→RelV x v→RelV y u→r x y H Q→
  subscripted slice false v u=operate [v,u] (getItem v u)→wpAny (model X.prog X.w) X.A (subscriptTail value slice v u) (EP X pins σ Q) X.xe s
def MtR(X:Cx)(id:String)(r:V→List V→Hp→VK→Prop):Prop:=
 ∀(pins:List (Addr×Obj)) (s:Shared) (σ:St) (H:Hp) (x:V) (xs:List V) (v:Value) (us:List Value) (Q:VK),Inv X pins σ H s→RelV x v→Vals xs us→r x xs H Q→
  wpAny (model X.prog X.w) X.A (call (.builtin id) (v::us)) (EP X pins σ Q) X.xe s
section
variable{X:Cx}{a b:Expr}{ta tb:TE}{pos:Pos}
theorem Y44{r:R2}(hr:IxR X r)(ha:PE X a ta)(hb:PE X b tb)(hs:Z34 b):PE X (.Subscript a b pos) (tOp r ta tb):=by
 intro pins s σ H Q I h
 exact Subscript_ (binT ha hb I h fun v u s2 x y H2 I2 rx ry q=>hr a b pins s2 σ H2 x y v u Q I2 rx ry q (hs _ _))
def rIxL(K:PySem.W.Frag):R2:=fun x y H Q=>∃p xs i v,x= .ref p∧y= .int i∧SqL K H p xs∧atI xs i=some v∧Q v H
def rIxT(K:PySem.W.Frag):R2:=fun x y H Q=>∃p xs i v,x= .ref p∧y= .int i∧SqT K H p xs∧atI xs i=some v∧Q v H
def rIxS:R2:=fun x y H Q=>∃z i c,x= .str z∧y= .int i∧z.length≤sizeLine∧atI z.cps.toList i=some c∧Q (.str ⟨#[c]⟩) H
theorem Zm0:IxR X (rIxL X.K):=by
 intro value slice pins s σ H x y v u Q I rx ry h hs
 obtain⟨p,xs,i,z,rfl,rfl,hq,he,q⟩:=h
 cases rx
 obtain⟨t,rfl⟩:=ry
 obtain⟨its,r,pl,hz⟩:=I.list hq
 obtain⟨j,h1,h2,h3,h4,h5⟩:=G1 he
 obtain⟨w,ew,rw'⟩:=r.get h2
 have hl:=r.length
 have hn:=Qb
 have fin:EP X pins σ Q w s:=⟨z,H,I,rw',q⟩
 by_cases h0:0≤i
 ·have hj:i.toNat=j:=by
   rw[seqIndex_of h0 h5] at h1
   exact Option.some.inj h1
  exact item_listR pl.isList h0 (by omega) (by rw[hj];simpa using ew) fin hs
 ·have hj:(i+(its.toArray.size:Int)).toNat=j:=by
   rw[seqIndex_neg (by omega) h4] at h1
   rw[List.size_toArray,←hl]
   exact Option.some.inj h1
  exact subscriptTail_builtinR (x:=w) pl.isList.typeIs slot_list_getitem.lookup
   (wpAny_getItem_list_neg (Q:=fun r s'=>r=w∧EP X pins σ Q r s') pl.isList (by omega) (by rw[List.size_toArray]<;>omega) (by omega) (by rw[hj];simpa using ew) ⟨rfl,fin⟩) hs
theorem Zh9:IxR X (rIxT X.K):=by
 intro value slice pins s σ H x y v u Q I rx ry h hs
 obtain⟨p,xs,i,z,rfl,rfl,hq,he,q⟩:=h
 cases rx
 obtain⟨t,rfl⟩:=ry
 obtain⟨its,r,pl,hz⟩:=I.tuple hq
 obtain⟨j,h1,h2,h3,h4,h5⟩:=G1 he
 obtain⟨w,ew,rw'⟩:=r.get h2
 have hl:=r.length
 have hn:=Qb
 have fin:EP X pins σ Q w s:=⟨z,H,I,rw',q⟩
 exact subscriptTail_builtinR (x:=w) pl.typeIs slot_tuple_getitem.lookup
  (getItem_tuple (j:=j) (Q:=fun r s'=>r=w∧EP X pins σ Q r s') pl (by omega) (by omega) (by rw[List.size_toArray,←hl];exact h1) (by simpa using ew) ⟨rfl,fin⟩) hs
theorem Zx1:IxR X rIxS:=by
 intro value slice pins s σ H x y v u Q I rx ry h hs
 obtain⟨z,i,c,rfl,rfl,hz,he,q⟩:=h
 obtain⟨t,rfl⟩:=rx
 obtain⟨t',rfl⟩:=ry
 obtain⟨j,h1,h2,h3,h4,h5⟩:=G1 he
 have hl:z.cps.toList.length=z.length:=by simp[Str.length]
 rw[hl] at h1 h4 h5
 have hn:=Qb
 exact tail_any (typeIs_str s z t) slot_str_getitem.lookup (getItem_str (c:=c) (by
  have e1:decide (i< -(2 ^ 63:Int))=false:=decide_eq_false (by omega)
  have e2:decide (i ≥ 2 ^ 63)=false:=decide_eq_false (by omega)
  rw[e1,e2,Bool.or_false]) (by rw[h1];simpa using h2) ⟨.str ⟨#[c]⟩,H,I.tok _,⟨_,rfl⟩,q⟩) hs
theorem Cj(its:List Value)(n j:Nat)(u:Value):Obj.mapSeq (·.setIfInBounds j u) {cls:= .type "list",data:= .seq its.toArray n}={cls:= .type "list",data:= .seq (its.set j u).toArray n}:=by
 simp[Obj.mapSeq]
theorem Inv.lst{pins:List (Addr×Obj)}{σ:St}{H:Hp}{s:Shared}{p:Addr}{xs:List V}(I:Inv X pins σ H s)(h:H p=some (.lst xs)):
  ∃(its:List Value) (n:Nat),Vals xs its∧s.heap.get? p=some {cls:= .type "list",data:= .seq its.toArray n}∧xs.length≤sizeLine:=by
 obtain⟨z,its,n,r,e⟩:=I.hok p _ h
 exact⟨its,n,r,e,z⟩
theorem Inv.lstUpd{pins:List (Addr×Obj)}{σ:St}{H:Hp}{s:Shared}{p:Addr}{xs ys:List V}{its its':List Value}{n n':Nat}{f:Obj→Obj}(I:Inv X pins σ H s)(h:H p=some (.lst xs))
  (ho:s.heap.get? p=some {cls:= .type "list",data:= .seq its.toArray n}) (hf:f {cls:= .type "list",data:= .seq its.toArray n}={cls:= .type "list",data:= .seq its'.toArray n'}) (r:Vals ys its') (hz:ys.length≤sizeLine) (t:Nat):
  Inv X pins σ (upd H p (.lst ys)) {s with heap:=s.heap.update p f,toks:=t}:=by
 have e:(s.heap.update p f).get? p=some {cls:= .type "list",data:= .seq its'.toArray n'}:=by
  rw[Heap.get?_update_self f ho (by rw[hf]<;>rfl),hf]
 refine I.write (x:=p) (e:=p) (by rw[h];trivial) (.inl rfl) (fun b u hb q=>(Heap.get?_update_other _ _ (Ne.symm hb)).trans q) ⟨_,e⟩ ?_
 exact⟨hz,its',n',r,e⟩
def Zx6:V→V→V→Hp→(Hp→Prop)→Prop:=fun o i v H Q=>∃p xs k j,o= .ref p∧i= .int k∧H p=some (.lst xs)∧ixN xs.length k=some j∧Q (upd H p (.lst (xs.set j v)))
theorem Zf4:PSet X Zx6:=by
 intro pins s σ H o i v ov iv u Q I ro ri rv h
 obtain⟨p,xs,k,j,rfl,rfl,hp,hj,q⟩:=h
 cases ro
 obtain⟨t,rfl⟩:=ri
 obtain⟨its,n,r,ho,hz⟩:=I.lst hp
 obtain⟨h1,h2,h3,h4⟩:=Z15 hj
 have hl:=r.length
 have hn:=Qb
 have I':Inv X pins σ (upd H p (.lst (xs.set j v))) {s with heap:=s.heap.update p (Obj.mapSeq (·.setIfInBounds j u))}:=
  I.lstUpd hp ho (Cj its n j u) (r.set rv j) (by rw[List.length_set];exact hz) s.toks
 by_cases h0:0≤k
 ·have hk:k.toNat=j:=by
   rw[seqIndex_of h0 h4] at h1
   exact Option.some.inj h1
  exact PySem.W.ki_setAt ho h0 (by omega) (by rw[List.size_toArray,←hl];exact h4) (by rw[hk];exact⟨_,I',q⟩)
 ·have hk:(k+(its.toArray.size:Int)).toNat=j:=by
   rw[seqIndex_neg (by omega) h3] at h1
   rw[List.size_toArray,←hl]
   exact Option.some.inj h1
  exact PySem.W.ki_setBack ho (by omega) (by rw[List.size_toArray,←hl];exact h3) (by omega) (by rw[hk];exact⟨_,I',q⟩)
theorem Je(lo hi:Option Int)(n:Nat):(sliceBounds lo hi none n).1=((HT.sIx n 0 lo:Nat):Int)∧(sliceBounds lo hi none n).2.1=((HT.sIx n n hi:Nat):Int)∧(sliceBounds lo hi none n).2.2=1:=by
 refine⟨?_,?_,rfl⟩
 ·cases lo with
  | none=>simp[sliceBounds,HT.sIx]
  | some i=>
   simp only[sliceBounds,HT.sIx,Option.getD_none,show(1:Int) >0 by decide,if_true]
   by_cases h:i<0
   ·simp only[h,if_true]<;>omega
   ·simp only[h,if_false]<;>omega
 ·cases hi with
  | none=>simp[sliceBounds,HT.sIx]
  | some i=>
   simp only[sliceBounds,HT.sIx,Option.getD_none,show(1:Int) >0 by decide,if_true]
   by_cases h:i<0
   ·simp only[h,if_true]<;>omega
   ·simp only[h,if_false]<;>omega
theorem Oz(its:List Value)(lo hi:Option Int):slicePick its.toArray lo hi none=((its.drop (HT.sIx its.length 0 lo)).take (HT.sIx its.length its.length hi - HT.sIx its.length 0 lo)).toArray:=by
 obtain⟨h1,h2,h3⟩:=Je lo hi its.toArray.size
 unfold slicePick
 rw[h1,h2,h3]
 simp only[sliceRange_one,pick_run,List.size_toArray]<;>rfl
def rSlL(K:PySem.W.Frag):V→Option Int→Option Int→Hp→VK→Prop:=fun x lo hi H Q=>∃a xs,x= .ref a∧SqL K H a xs∧∀p,H p=none→Q (.ref p) (upd H p (.lst (cutV xs lo hi)))
theorem Zn9:SlR X (rSlL X.K):=by
 intro pins s σ H x v vl vu lo hi sl Q I rx hs pl pu h
 obtain⟨a,xs,rfl,hx,q⟩:=h
 cases rx
 obtain⟨its,r,ht,hz⟩:=I.list hx
 have hlen:=r.length
 refine⟨"list",_,slot_list_getitem.lookup,ht.isList.typeIs,?_⟩
 refine wpAny_getItem_list_slice ht.isList hs pl pu .none (by simp) ?_ (by rw[List.size_toArray]<;>omega)
 rw[Oz,←hlen]
 refine⟨.ref s.heap.objs.size,_,I.laid (t':=s.toks) (o:= .lst (cutV xs lo hi)) (fun b ob q=>Heap.get?_push_of_some _ q) (Nat.le_refl _) ?_,rfl,q _ (I.hok.fresh (Nat.le_refl _))⟩
 exact⟨Nat.le_trans (Qc xs lo hi) hz,_,0,(r.drop (HT.sIx xs.length 0 lo)).take (HT.sIx xs.length xs.length hi - HT.sIx xs.length 0 lo),Heap.get?_push_size _ rfl⟩
noncomputable def Wa:V→Bool
 | .non=>true
 | .bl _=>true
 | .int _=>true
 | .str _=>true
 | _=>false
noncomputable def eqV:V→V→Bool
 | .non,.non=>true
 | .bl a,.bl b=>a==b
 | .bl a,.int b=>(if a then 1 else 0)==b
 | .int a,.bl b=>a==(if b then 1 else 0)
 | .int a,.int b=>a==b
 | .str a,.str b=>a==b
 | _,_=>false
theorem Fx{A:Around}{s:Shared}{y x:V}{u v:Value}(ry:RelV y u)(rx:RelV x v)(fy:Wa y=true)(fx:Wa x=true):SeqAt.EqAt A s u v (eqV y x):=by
 cases y with
 | non=>
  cases ry
  cases x with
  | non=>cases rx;exact SeqAt.EqAt.same _
  | bl b=>cases rx;exact SeqAt.EqAt.none_bool b
  | int b=>obtain⟨t,rfl⟩:=rx;exact SeqAt.EqAt.none_int b t
  | str b=>obtain⟨t,rfl⟩:=rx;exact SeqAt.EqAt.none_str b t
  | _=>exact absurd (show false=true from fx) Bool.false_ne_true
 | bl a=>
  cases ry
  cases x with
  | non=>cases rx;exact SeqAt.EqAt.bool_none a
  | bl b=>cases rx;exact SeqAt.EqAt.bool_bool a b
  | int b=>obtain⟨t,rfl⟩:=rx;exact SeqAt.EqAt.bool_int a b t
  | str b=>obtain⟨t,rfl⟩:=rx;exact SeqAt.EqAt.bool_str a b t
  | _=>exact absurd (show false=true from fx) Bool.false_ne_true
 | int a=>
  obtain⟨t',rfl⟩:=ry
  cases x with
  | non=>cases rx;exact SeqAt.EqAt.int_none a t'
  | bl b=>cases rx;exact SeqAt.EqAt.int_bool a t' b
  | int b=>obtain⟨t,rfl⟩:=rx;exact SeqAt.EqAt.int_int a t' b t
  | str b=>obtain⟨t,rfl⟩:=rx;exact SeqAt.EqAt.int_str a t' b t
  | _=>exact absurd (show false=true from fx) Bool.false_ne_true
 | str a=>
  obtain⟨t',rfl⟩:=ry
  cases x with
  | non=>cases rx;exact SeqAt.EqAt.str_none a t'
  | bl b=>cases rx;exact SeqAt.EqAt.str_bool a t' b
  | int b=>obtain⟨t,rfl⟩:=rx;exact SeqAt.EqAt.str_int a t' b t
  | str b=>obtain⟨t,rfl⟩:=rx;exact SeqAt.EqAt.str_str a t' b t
  | _=>exact absurd (show false=true from fx) Bool.false_ne_true
 | _=>exact absurd (show false=true from fy) Bool.false_ne_true
noncomputable def eqU(x:V)(u:Value):Bool:=match u with
 | .none=>eqV .non x
 | .bool b=>eqV (.bl b) x
 | .int i _=>eqV (.int i) x
 | .str z _=>eqV (.str z) x
 | _=>false
theorem Zi9{x y:V}{u:Value}(r:RelV y u)(f:Wa y=true):eqU x u=eqV y x:=by
 cases y with
 | non=>cases r;rfl
 | bl b=>cases r;rfl
 | int i=>obtain⟨t,rfl⟩:=r;rfl
 | str z=>obtain⟨t,rfl⟩:=r;rfl
 | _=>exact absurd (show false=true from f) Bool.false_ne_true
theorem Rn{x:V}:∀{xs:List V} {us:List Value},Vals xs us→xs.all Wa=true→us.any (eqU x)=xs.any fun y=>eqV y x
 | _,_,.nil,_=>rfl
 | y::xs,u::us,.cons r t,f=>by
  rw[List.all_cons,Bool.and_eq_true] at f
  rw[List.any_cons,List.any_cons,Zi9 r f.1,Rn t f.2]
theorem T9{A:Around}{s:Shared}{x:V}{v:Value}(rx:RelV x v)(fx:Wa x=true):∀{xs:List V} {us:List Value},Vals xs us→xs.all Wa=true→∀u∈us,SeqAt.EqAt A s u v (eqU x u)
 | _,_,.nil,_=>fun u hu=>by cases hu
 | y::xs,u::us,.cons r t,f=>fun u' hu=>by
  rw[List.all_cons,Bool.and_eq_true] at f
  rcases List.mem_cons.mp hu with rfl | hu
  ·rw[Zi9 r f.1];exact Fx r rx f.1 fx
  ·exact T9 rx fx t f.2 u' hu
noncomputable def inV(x:V)(xs:List V):Bool:=xs.any fun y=>eqV y x
def rIn(K:PySem.W.Frag)(neg:Bool):R2:=fun x y H Q=>∃p xs,y= .ref p∧(SqL K H p xs∨SqT K H p xs)∧Wa x=true∧xs.all Wa=true∧Q (.bl (if neg then !inV x xs else inV x xs)) H
theorem Bz:OpR X (compareOp .In) (rIn X.K false):=by
 intro pins s σ H x y v u Q I rx ry h
 obtain⟨p,xs,rfl,hq,fx,fs,q⟩:=h
 cases ry
 rcases hq with hq | hq
 ·obtain⟨its,r,pl,hz⟩:=I.list hq
  refine SeqAt.in_listAt (eqU x) pl.isList (fun w hw=>T9 rx fx r fs w (by simpa using hw)) ⟨.bl _,H,I,rfl,?_⟩
  rw[show its.toArray.any (eqU x)=its.any (eqU x) by simp,Rn r fs]
  exact q
 ·obtain⟨its,r,pl,hz⟩:=I.tuple hq
  refine SeqAt.in_tupleAt (eqU x) pl (fun w hw=>T9 rx fx r fs w (by simpa using hw)) ⟨.bl _,H,I,rfl,?_⟩
  rw[show its.toArray.any (eqU x)=its.any (eqU x) by simp,Rn r fs]
  exact q
theorem Ny:OpR X (compareOp .NotIn) (rIn X.K true):=by
 intro pins s σ H x y v u Q I rx ry h
 obtain⟨p,xs,rfl,hq,fx,fs,q⟩:=h
 cases ry
 rcases hq with hq | hq
 ·obtain⟨its,r,pl,hz⟩:=I.list hq
  refine SeqAt.notIn_listAt (eqU x) pl.isList (fun w hw=>T9 rx fx r fs w (by simpa using hw)) ⟨.bl _,H,I,rfl,?_⟩
  rw[show its.toArray.any (eqU x)=its.any (eqU x) by simp,Rn r fs]
  exact q
 ·obtain⟨its,r,pl,hz⟩:=I.tuple hq
  refine SeqAt.notIn_tupleAt (eqU x) pl (fun w hw=>T9 rx fx r fs w (by simpa using hw)) ⟨.bl _,H,I,rfl,?_⟩
  rw[show its.toArray.any (eqU x)=its.any (eqU x) by simp,Rn r fs]
  exact q
theorem Sj:Wt X (.builtin "len") (fun xs H Q=>∃p ys,xs=[.ref p]∧(SqL X.K H p ys∨SqT X.K H p ys)∧Q (.int ys.length) H):=by
 intro pins s σ H xs us Q I r h
 obtain⟨p,ys,rfl,hq,q⟩:=h
 obtain⟨u,rfl,rx⟩:=Q6 r
 cases rx
 have hn:=Qb
 rcases hq with hq | hq
 ·obtain⟨its,r',pl,hz⟩:=I.list hq
  have hlen:=r'.length
  exact Calls.call_len_list pl.isList (by simp only[List.size_toArray]<;>omega) ⟨.int ys.length,H,I.tok _,⟨s.toks+1,by rw[List.size_toArray,hlen]⟩,q⟩
 ·obtain⟨its,r',pl,hz⟩:=I.tuple hq
  have hlen:=r'.length
  exact len_tuple pl (by simp only[List.size_toArray]<;>omega) ⟨.int ys.length,H,I.tok _,⟨s.toks+1,by rw[List.size_toArray,hlen]⟩,q⟩
theorem Nv:Wt X (.builtin "len") (fun xs H Q=>∃z,xs=[.str z]∧z.length≤sizeLine∧Q (.int z.length) H):=by
 intro pins s σ H xs us Q I r h
 obtain⟨z,rfl,hz,q⟩:=h
 obtain⟨u,rfl,t,rfl⟩:=Q6 r
 have hn:=Qb
 exact len_str (by omega) ⟨.int z.length,H,I.tok _,⟨_,rfl⟩,q⟩
def tyV(K:PySem.W.Frag)(T:String)(x:V)(H:Hp):Prop:=match x with
 | .str _=>T="str"
 | .int _=>T="int"
 | .ref p=>(T="list"∧∃xs,SqL K H p xs)∨(T="tuple"∧∃o,K.lookup p=some o∧o.cls= .type "tuple"∧o.dict=none)∨
   (T="dict"∧((∃kvs,H p=some (.dK kvs))∨∃kvs,H p=some (.dT kvs)))∨(T="set"∧∃S n,H p=some (.set S n))
 | _=>False
theorem Zj6{pins:List (Addr×Obj)}{σ:St}{H:Hp}{s:Shared}{T:String}{x:V}{v:Value}(I:Inv X pins σ H s)(r:RelV x v)(ty:tyV X.K T x H):
  s.TypeIs v T∧∀a,v= .ref a→∃ob,s.heap.get? a=some ob∧ob.dict=none:=by
 cases x with
 | str z=>
  obtain⟨t,rfl⟩:=r
  cases (show T="str" from ty)
  exact⟨typeIs_str s z t,fun _ e=>nomatch e⟩
 | int i=>
  obtain⟨t,rfl⟩:=r
  cases (show T="int" from ty)
  exact⟨typeIs_int s i t,fun _ e=>nomatch e⟩
 | ref p=>
  cases r
  rcases ty with⟨rfl,xs,hq⟩ | ⟨rfl,o,hk,hc,hd⟩ | ⟨rfl,hk⟩ | ⟨rfl,S,n,hk⟩
  ·obtain⟨its,_,pl,_⟩:=I.list hq
   refine⟨pl.isList.typeIs,fun a e=>?_⟩
   cases e
   obtain⟨o,n,e,c,hd,_⟩:=pl
   exact⟨o,e,hd⟩
  ·refine⟨⟨o,I.kIn p o hk,hc⟩,fun a e=>?_⟩
   cases e
   exact⟨o,I.kIn _ o hk,hd⟩
  ·have z:∃o,s.heap.get? p=some o∧o.ExactDict:=by
    rcases hk with⟨kvs,hk⟩ | ⟨kvs,hk⟩
    ·obtain⟨_,_,_,_,o,_,_,e,ex,_⟩:=I.hok p _ hk
     exact⟨o,e,ex⟩
    ·obtain⟨_,_,_,_,o,_,_,e,ex,_⟩:=I.hok p _ hk
     exact⟨o,e,ex⟩
   obtain⟨o,e,ex⟩:=z
   refine⟨⟨o,e,ex.1⟩,fun a e2=>?_⟩
   cases e2
   exact⟨o,e,ex.2.1⟩
  ·obtain⟨o,_,_,_,e,ex,_⟩:=I.hok p _ hk
   refine⟨⟨o,e,ex.1⟩,fun a e2=>?_⟩
   cases e2
   exact⟨o,e,ex.2.1⟩
 | _=>exact False.elim ty
def tBM0(K:PySem.W.Frag)(T:String)(r:V→List V→Hp→VK→Prop)(to:TE):TE:=fun σ H Q=>to σ H fun x H1=>tyV K T x H1∧r x [] H1 Q
def tBM(K:PySem.W.Frag)(T:String)(r:V→List V→Hp→VK→Prop)(to:TE)(t:TA):TE:=fun σ H Q=>to σ H fun x H1=>tyV K T x H1∧t σ H1 fun xs H2=>r x xs H2 Q
variable{o e:Expr}{es:List Expr}{to:TE}{t:TA}{name:Str}{apos cpos:Pos}{T id:String}{r:V→List V→Hp→VK→Prop}
theorem Zt2(pa:PlainAttrs T)(slot:Slot T name id)(hty:typeOf (.builtin id)=pure (.type "method_descriptor"))(hm:MtR X id r)(ho:PE X o to)
  (hbase:attributeBase o name X.env (eval o X.env)=eval o X.env:=by rfl) (hline:(apos.endLine==cpos.line)=true:=by rfl):PE X (.Call (.Attribute o name apos) [] [] cpos) (tBM0 X.K T r to):=by
 intro pins s σ H Q I h
 refine wpAny_Call_method0_late hbase hline (thn (ho pins s σ H _ I h) fun v s1 zz36=>?_)
 obtain⟨x,H1,I1,r1,ty,q1⟩:=zz36
 obtain⟨h1,h2⟩:=Zj6 I1 r1 ty
 exact⟨T,id,pa,slot,hty,h1,h2,Calls.callWith_builtin rfl (PySem.evalArgs_none (hm pins s1 σ H1 x [] v [] Q I1 r1 .nil q1))⟩
theorem Y46(pa:PlainAttrs T)(slot:Slot T name id)(hty:typeOf (.builtin id)=pure (.type "method_descriptor"))(hm:MtR X id r)(ho:PE X o to)(ha:PA X (e::es) t)
  (hbase:attributeBase o name X.env (eval o X.env)=eval o X.env:=by rfl)
  (hfew:((backTo cpos (starEach (e::es) X.env)).all (fun x=> !x.1)&&(backToKw cpos (keywordEach [] X.env)).all (fun x=>x.1.isSome)
   &&decide ((e::es).length+([]:List Keyword).length+(if ([]:List Keyword).isEmpty then 0 else 1)<30))=true:=by rfl)
  (hline:(apos.endLine==cpos.line)=true:=by rfl) (hs:starEach (e::es) X.env=(false,eval e X.env)::starEach es X.env:=by rfl) (hplain:(backTo cpos (starEach es X.env)).any (·.1)=false:=by rfl):
  PE X (.Call (.Attribute o name apos) (e::es) [] cpos) (tBM X.K T r to t):=by
 intro pins s σ H Q I h
 refine wpAny_Call_method_late hbase hfew hline rfl (thn (ho pins s σ H _ I h) fun v s1 zz37=>?_)
 obtain⟨x,H1,I1,r1,ty,q1⟩:=zz37
 obtain⟨h1,h2⟩:=Zj6 I1 r1 ty
 refine⟨T,id,pa,slot,hty,h1,h2,?_⟩
 have hA:=ha cpos pins s1 σ H1 _ I1 q1
 rw[hs] at hA ⊢
 refine Calls.callWith_builtin (by show(false || (backTo cpos (starEach es X.env)).any (·.1))=false;rw[hplain]<;>rfl) (Calls.evalArgs_plain ?_)
 exact thn hA fun us s2 zz38=>by obtain⟨vs,H2,I2,r2,q2⟩:=zz38;exact hm pins s2 σ H2 x vs v us Q I2 r1 r2 q2
end
def MtM(X:Cx)(id:String)(r:V→List V→Hp→VK→Prop):Prop:=
 ∀(pins:List (Addr×Obj)) (s:Shared) (σ:St) (H:Hp) (x:V) (xs:List V) (v:Value) (us:List Value) (Q:VK),Inv X pins σ H s→RelV x v→Vals xs us→r x xs H Q→
  wpAny (model X.prog X.w) X.A (call (.builtin id) (v::us)) (EP X pins σ Q) X.xe s
theorem Vals.one:∀{x:V} {us:List Value},Vals [x] us→∃u,us=[u]∧RelV x u
 | _,_,.cons r .nil=>⟨_,rfl,r⟩
theorem Vals.two:∀{x y:V} {us:List Value},Vals [x,y] us→∃u v,us=[u,v]∧RelV x u∧RelV y v
 | _,_,_,.cons r (.cons q .nil)=>⟨_,_,rfl,r,q⟩
theorem Vals.zero:∀{us:List Value},Vals [] us→us=[]
 | _,.nil=>rfl
theorem Vals.dropLast{xs:List V}{us:List Value}(h:Vals xs us):Vals xs.dropLast us.dropLast:=by
 induction h with
 | nil=>exact .nil
 | cons r t ih=>
  cases t with
  | nil=>exact .nil
  | cons q t'=>exact .cons r ih
theorem Vals.eraseIdx:∀{xs:List V} {us:List Value} (i:Nat),Vals xs us→Vals (xs.eraseIdx i) (us.eraseIdx i)
 | _,_,_,.nil=> .nil
 | _,_,0,.cons _ t=>t
 | _,_,i+1,.cons r t=> .cons r (Vals.eraseIdx i t)
theorem Vals.reverse{xs:List V}{us:List Value}(h:Vals xs us):Vals xs.reverse us.reverse:=by
 induction h with
 | nil=>exact .nil
 | cons r t ih=>rw[List.reverse_cons,List.reverse_cons];exact Vals.append ih (.cons r .nil)
theorem Vals.rep{xs:List V}{us:List Value}(h:Vals xs us):∀k:Nat,Vals (List.replicate k xs).flatten (List.replicate k us).flatten
 | 0=> .nil
 | k+1=>by
  rw[List.replicate_succ,List.replicate_succ,List.flatten_cons,List.flatten_cons]
  exact Vals.append h (Vals.rep h k)
theorem Cr{α:Type}(l:List α):l.eraseIdx (l.length - 1)=l.dropLast:=by
 induction l with
 | nil=>rfl
 | cons a r ih=>
  cases r with
  | nil=>rfl
  | cons b r=>
   have e:(a::b::r).length - 1=((b::r).length - 1)+1:=by
    have h1:(a::b::r).length=r.length+2:=rfl
    have h2:(b::r).length=r.length+1:=rfl
    omega
   rw[e,List.eraseIdx_cons_succ,ih]
   all_goals rfl
theorem Nc{α:Type}:∀(l:List α) (i:Nat),(l.eraseIdx i).length≤l.length
 | [],_=>Nat.le_refl _
 | _::_,0=>Nat.le_succ _
 | _::r,i+1=>Nat.succ_le_succ (Nc r i)
theorem Jc(its:List Value):∀(k:Nat) (acc:List Value),
  List.foldl (fun x1 x2=>x1++x2) acc.toArray (List.replicate k its.toArray)=(acc++(List.replicate k its).flatten).toArray
 | 0,acc=>by simp
 | k+1,acc=>by
  have e:acc.toArray++its.toArray=(acc++its).toArray:=by simp
  have e2:(acc++its)++(List.replicate k its).flatten=acc++(List.replicate (k+1) its).flatten:=by
   rw[List.replicate_succ,List.flatten_cons,List.append_assoc]
  rw[←e2,←Jc its k (acc++its),←e,List.replicate_succ,List.foldl_cons]
section
variable{X:Cx}{pins:List (Addr×Obj)}{σ:St}{H:Hp}{s:Shared}{l b:Addr}{xs ys zs:List V}
theorem Inv.lset{its its':List Value}{n:Nat}{f:Array Value→Array Value}{t':Nat}(I:Inv X pins σ H s)(hH:H l=some (.lst xs))
  (e:s.heap.get? l=some {cls:= .type "list",data:= .seq its.toArray n}) (hf:f its.toArray=its'.toArray) (hv:Vals ys its') (hz:ys.length≤sizeLine):
  Inv X pins σ (upd H l (.lst ys)) {s with heap:=s.heap.update l (Obj.mapSeq f),toks:=t'}:=by
 have q:=PySem.IsL.update e f
 rw[hf] at q
 refine I.write (x:=l) (e:=l) (by rw[hH];exact trivial) (.inl rfl) (fun b' u hb hu=>(Heap.get?_update_other s.heap (Obj.mapSeq f) (Ne.symm hb)).trans hu) ⟨_,q⟩ ?_
 exact⟨hz,its',_,hv,q⟩
theorem Inv.lnew{its:List Value}{t':Nat}(I:Inv X pins σ H s)(hv:Vals ys its)(hz:ys.length≤sizeLine):
  Inv X pins σ (upd H s.heap.objs.size (.lst ys)) {s with heap:=s.heap.push {cls:= .type "list",data:= .seq its.toArray},toks:=t'}:=
 I.laid (fun _ _ q=>Heap.get?_push_of_some _ q) (Nat.le_refl _) ⟨hz,its,0,hv,Heap.get?_push_size _ rfl⟩
theorem Inv.fresh(I:Inv X pins σ H s):H s.heap.objs.size=none:=I.hok.fresh (Nat.le_refl _)
theorem Inv.lstM(I:Inv X pins σ H s)(hH:H l=some (.lst xs)):xs.length≤sizeLine∧∃(its:List Value) (n:Nat),Vals xs its∧xs.length=its.length∧s.heap.get? l=some {cls:= .type "list",data:= .seq its.toArray n}:=by
 obtain⟨z,its,n,r,e⟩:=I.hok l _ hH
 exact⟨z,its,n,r,r.length,e⟩
theorem Fa{n:Nat}(h:n≤sizeLine):Builtin.List.listTooLong n=false:=by
 unfold Builtin.List.listTooLong
 exact decide_eq_false (by omega)
end
section
variable{X:Cx}
def Zp4:V→List V→Hp→VK→Prop:=fun x vs H Q=>∃l xs y,x= .ref l∧vs=[y]∧H l=some (.lst xs)∧xs.length<sizeLine∧Q .non (upd H l (.lst (xs++[y])))
theorem Rs:MtM X "list.append" Zp4:=by
 intro pins s σ H x vs v us Q I rx rv h
 obtain⟨l,xs,y,rfl,rfl,hH,hz,q⟩:=h
 cases rx
 obtain⟨u,rfl,ru⟩:=rv.one
 obtain⟨z,its,n,r,hl,e⟩:=I.lstM hH
 refine call_meets F.slot_list_append ⟨_,e,rfl⟩ F.entry_list_append (F.args_list_append_2 _ _) (PySem.list_append l its.toArray n u (by rw[List.size_toArray];omega)) ⟨e,?_⟩
 refine⟨.non,_,I.lset (its':=its++[u]) hH e (by simp) (r.append (.cons ru .nil)) ?_,rfl,q⟩
 rw[List.length_append,List.length_singleton]
 omega
def Zr1:V→List V→Hp→VK→Prop:=fun x vs H Q=>∃l b xs zs,x= .ref l∧vs=[.ref b]∧H l=some (.lst xs)∧H b=some (.lst zs)∧xs.length+zs.length≤sizeLine∧Q .non (upd H l (.lst (xs++zs)))
theorem Z28:MtM X "list.extend" Zr1:=by
 intro pins s σ H x vs v us Q I rx rv h
 obtain⟨l,b,xs,zs,rfl,rfl,hH,hB,hz,q⟩:=h
 cases rx
 obtain⟨u,rfl,ru⟩:=rv.one
 cases ru
 obtain⟨z,its,n,r,hl,e⟩:=I.lstM hH
 obtain⟨z2,its2,n2,r2,hl2,e2⟩:=I.lstM hB
 have hsz:its.toArray.size+its2.toArray.size≤sizeLine:=by rw[List.size_toArray,List.size_toArray];omega
 have hlong:¬(!its.toArray.isEmpty&&Builtin.List.listTooLong (its.toArray.size+its2.toArray.size))=true:=by
  rw[Fa hsz,Bool.and_false]
  exact Bool.false_ne_true
 refine call_meets F.slot_list_extend ⟨_,e,rfl⟩ F.entry_list_extend (F.args_list_extend_2 _ _)
  (AutoSeq1.list_extend_list_list_0 l its.toArray n b its2.toArray n2 hlong (by rw[List.size_toArray];omega) (by omega)) ⟨e,e2,?_⟩
 refine⟨.non,_,I.lset (its':=its++its2) hH e (by simp) (r.append r2) ?_,rfl,q⟩
 rw[List.length_append]
 omega
def rPop:V→List V→Hp→VK→Prop:=fun x vs H Q=>∃l xs y,x= .ref l∧vs=[]∧H l=some (.lst xs)∧xs[xs.length - 1]?=some y∧Q y (upd H l (.lst xs.dropLast))
theorem Y04:MtM X "list.pop" rPop:=by
 intro pins s σ H x vs v us Q I rx rv h
 obtain⟨l,xs,y,rfl,rfl,hH,hy,q⟩:=h
 cases rx
 have hus:=rv.zero
 subst hus
 obtain⟨z,its,n,r,hl,e⟩:=I.lstM hH
 obtain⟨u,hu,ru⟩:=r.get hy
 have hy':its.toArray[its.toArray.size - 1]?=some u:=by
  show its.toArray[its.length - 1]?=some u
  rw[←Array.getElem?_toList,←hl]
  exact hu
 refine call_meets F.slot_list_pop ⟨_,e,rfl⟩ F.entry_list_pop (F.args_list_pop_1 _) (MeetsSeq.list_pop_last l its.toArray n u hy' (by rw[List.size_toArray];omega)) ⟨e,?_⟩
 refine⟨y,_,I.lset (its':=its.dropLast) hH e ?_ r.dropLast ?_,ru,q⟩
 ·show its.toArray.eraseIdxIfInBounds (its.toArray.size - 1)=its.dropLast.toArray
  rw[List.size_toArray,List.eraseIdxIfInBounds_toArray,Cr]
 ·rw[List.length_dropLast]
  omega
def Zz1:V→List V→Hp→VK→Prop:=fun x vs H Q=>∃l xs i k y,x= .ref l∧vs=[.int i]∧H l=some (.lst xs)∧ -(2 ^ 63)≤i∧i<2 ^ 63∧seqIndex? i xs.length=some k∧xs[k]?=some y∧Q y (upd H l (.lst (xs.eraseIdx k)))
theorem Zc7:MtM X "list.pop" Zz1:=by
 intro pins s σ H x vs v us Q I rx rv h
 obtain⟨l,xs,i,k,y,rfl,rfl,hH,h1,h2,hk,hy,q⟩:=h
 cases rx
 obtain⟨u,rfl,ru⟩:=rv.one
 obtain⟨t,rfl⟩:=ru
 obtain⟨z,its,n,r,hl,e⟩:=I.lstM hH
 obtain⟨w,hw,rw'⟩:=r.get hy
 refine call_meets F.slot_list_pop ⟨_,e,rfl⟩ F.entry_list_pop (F.args_list_pop_2 _ _)
  (MeetsSeq.list_pop_at l its.toArray n i t k w (fitsIndex_both h1 h2) (by rw[List.size_toArray,←hl];exact hk) (by rw[←Array.getElem?_toList];exact hw) (by rw[List.size_toArray];omega)) ⟨e,?_⟩
 refine⟨y,_,I.lset (its':=its.eraseIdx k) hH e ?_ (r.eraseIdx k) ?_,rw',q⟩
 ·show its.toArray.eraseIdxIfInBounds k=(its.eraseIdx k).toArray
  rw[List.eraseIdxIfInBounds_toArray]
 ·have:=Nc xs k
  omega
def rCat:R2:=fun x y H Q=>∃l b xs zs,x= .ref l∧y= .ref b∧H l=some (.lst xs)∧H b=some (.lst zs)∧xs.length+zs.length≤sizeLine∧∀p,H p=none→Q (.ref p) (upd H p (.lst (xs++zs)))
theorem Zv2:OpR X (binaryOp .Add) rCat:=by
 intro pins s σ H x y v u Q I rx ry h
 obtain⟨l,b,xs,zs,rfl,rfl,hH,hB,hz,q⟩:=h
 cases rx
 cases ry
 obtain⟨z,its,n,r,hl,e⟩:=I.lstM hH
 obtain⟨z2,its2,n2,r2,hl2,e2⟩:=I.lstM hB
 refine PySem.P.add_list e e2 ?_ (by rw[List.size_toArray,List.size_toArray];omega)
 have ea:its.toArray++its2.toArray=(its++its2).toArray:=by simp
 rw[ea]
 exact⟨.ref _,_,I.lnew (t':=s.toks) (r.append r2) (by rw[List.length_append];omega),rfl,q _ I.fresh⟩
def rRep:R2:=fun x y H Q=>∃l k xs,x= .ref l∧y= .int k∧H l=some (.lst xs)∧ -(2 ^ 63)≤k∧k<2 ^ 63∧xs.length * k.toNat≤sizeLine∧
 ∀p,H p=none→Q (.ref p) (upd H p (.lst (List.replicate k.toNat xs).flatten))
theorem Zk4{α:Type}(xs:List α)(k:Nat):(List.replicate k xs).flatten.length=k * xs.length:=by
 induction k with
 | zero=>simp
 | succ k ih=>rw[List.replicate_succ,List.flatten_cons,List.length_append,ih,Nat.succ_mul,Nat.add_comm]
theorem Zw8:OpR X (binaryOp .Mult) rRep:=by
 intro pins s σ H x y v u Q I rx ry h
 obtain⟨l,k,xs,rfl,rfl,hH,h1,h2,hz,q⟩:=h
 cases rx
 obtain⟨t,rfl⟩:=ry
 obtain⟨z,its,n,r,hl,e⟩:=I.lstM hH
 have hlen:its.toArray.size * k.toNat≤sizeLine:=by rw[List.size_toArray,←hl];exact hz
 have hcap:¬its.toArray.size * k.toNat >(2 ^ 63 - 1) / 8:=by
  have:(sizeLine:Nat)≤(2 ^ 63 - 1) / 8:=by decide
  omega
 have hfit:¬(!Builtin.List.listFitsIndex k)=true:=by
  rw[fitsIndex_both h1 h2]
  exact Bool.false_ne_true
 have hlong:¬Builtin.List.listTooLong (its.toArray.size * k.toNat)=true:=by
  rw[Fa hlen]
  exact Bool.false_ne_true
 have hnew:List.foldl (fun x1 x2=>x1++x2) #[] (List.replicate (if its.toArray.isEmpty=true then 0 else k.toNat) its.toArray)=(List.replicate k.toNat its).flatten.toArray:=by
  have f0:∀m:Nat,List.foldl (fun x1 x2=>x1++x2) #[] (List.replicate m its.toArray)=(List.replicate m its).flatten.toArray:=fun m=>by
   have:=Jc its m []
   rw[List.nil_append] at this
   exact this
  rw[f0]
  cases its with
  | nil=>simp
  | cons a r'=>rw[if_neg (by simp)]
 refine wpAny_binaryOp_repeat_ref (T:="list") (U:="int") (by decide) ⟨_,e,rfl⟩ (fun s'=>typeIs_int s' k t) noFill_list_mul F.fills_int_mul F.slot_int_rmul repeat_list F.slot_int_index.lookup
  (call_meets F.slot_int_rmul (typeIs_int s k t) F.entry_int_rmul (F.args_int_rmul_2 _ _) (int___rmul___int_list k t l its.toArray n)
   ⟨e,rfl,⟨_,e,rfl⟩,call_meets F.slot_list_mul ⟨_,e,rfl⟩ F.entry_list_mul (F.args_list_mul_2 _ _) (AutoListH.list___mul___list_int_3 l its.toArray n k t hfit hcap hlong) ⟨e,?_⟩⟩)
 rw[hnew]
 exact⟨.ref _,_,I.lnew (t':=s.toks) (r.rep k.toNat) (by rw[Zk4,Nat.mul_comm];exact hz),rfl,q _ I.fresh⟩
end
section
variable{prog:Program}{w:World}{A:Around}{E:Value→Shared→Prop}{s:Shared}
set_option maxRecDepth 100000 in
end
section
variable{κ:Type}[DecidableEq κ]
noncomputable def valV(kvs:List (κ×V))(k:κ):Option V:=(kvs.find? fun kv=>decide (kv.1=k)).map (·.2)
noncomputable def putK(kvs:List (κ×V))(k:κ)(v:V):List (κ×V):=
 if (kvs.any fun kv=>decide (kv.1=k))=true then kvs.map (fun kv=>if kv.1=k then(kv.1,v) else kv) else kvs++[(k,v)]
theorem Ox{p:κ×V}{r:List (κ×V)}{k:κ}(e:p.1=k):valV (p::r) k=some p.2:=by simp[valV,List.find?_cons,e]
theorem Py{p:κ×V}{r:List (κ×V)}{k:κ}(e:¬p.1=k):valV (p::r) k=valV r k:=by simp[valV,List.find?_cons,e]
theorem Gs(k:κ):∀kvs:List (κ×V),(kvs.any fun kv=>decide (kv.1=k))=(valV kvs k).isSome
 | []=>rfl
 | p::r=>by
  rw[List.any_cons]
  by_cases e:p.1=k
  ·simp only[Ox e,decide_eq_true e,Bool.true_or,Option.isSome_some]
  ·rw[Py e,decide_eq_false e,Bool.false_or];exact Gs k r
theorem T4(kvs:List (κ×V))(k:κ)(v:V):(putK kvs k v).length≤kvs.length+1:=by
 unfold putK
 split
 ·rw[List.length_map];omega
 ·rw[List.length_append,List.length_cons,List.length_nil];omega
theorem RelO.isSome_eq{o:Option V}{u:Option Value}(r:RelO o u):o.isSome=u.isSome:=by
 cases o with
 | none=>cases u with
  | none=>rfl
  | some _=>exact(show False from r).elim
 | some _=>cases u with
  | none=>exact(show False from r).elim
  | some _=>rfl
theorem KV.val{kvs:List (κ×V)}{vs:List (κ×Value)}(r:KV kvs vs)(k:κ):RelO (valV kvs k) (valueAt vs k):=by
 unfold KV at r
 induction r with
 | nil=>exact True.intro
 | @cons p q ps qs h t ih=>
  obtain⟨h1,h2⟩:=h
  by_cases e:p.1=k
  ·have e':q.1=k:=h1.symm.trans e
   have b:valueAt (q::qs) k=some q.2:=by simp[valueAt,List.find?_cons,e']
   rw[Ox e,b];exact h2
  ·have e':¬q.1=k:=fun z=>e (h1.trans z)
   have b:valueAt (q::qs) k=valueAt qs k:=by simp[valueAt,List.find?_cons,e']
   rw[Py e,b];exact ih
theorem KV.any{kvs:List (κ×V)}{vs:List (κ×Value)}(r:KV kvs vs)(k:κ):(kvs.any fun kv=>decide (kv.1=k))=vs.any fun kv=>decide (kv.1=k):=by
 unfold KV at r
 induction r with
 | nil=>rfl
 | cons h t ih=>rw[List.any_cons,List.any_cons,ih,h.1]
theorem KV.repl{kvs:List (κ×V)}{vs:List (κ×Value)}(r:KV kvs vs)(k:κ){y:V}{u:Value}(ry:RelV y u):
  KV (kvs.map fun kv=>if kv.1=k then(kv.1,y) else kv) (vs.map fun kv=>if kv.1=k then(kv.1,u) else kv):=by
 unfold KV at r ⊢
 induction r with
 | nil=>exact .nil
 | @cons p q ps qs h t ih=>
  rw[List.map_cons,List.map_cons]
  refine .cons ?_ ih
  obtain⟨h1,h2⟩:=h
  by_cases e:p.1=k
  ·rw[if_pos e,if_pos (h1.symm.trans e)];exact⟨h1,ry⟩
  ·rw[if_neg e,if_neg (fun z=>e (h1.trans z))];exact⟨h1,h2⟩
theorem KV.put{kvs:List (κ×V)}{vs:List (κ×Value)}(r:KV kvs vs)(k:κ){y:V}{u:Value}(ry:RelV y u):KV (putK kvs k y) (stored vs k u):=by
 unfold putK stored
 rw[r.any k]
 by_cases e:(vs.any fun kv=>decide (kv.1=k))=true
 ·rw[if_pos e,if_pos e];exact r.repl k ry
 ·rw[if_neg e,if_neg e];exact Paired.snoc r ⟨rfl,ry⟩
theorem KV.length{kvs:List (κ×V)}{vs:List (κ×Value)}(r:KV kvs vs):kvs.length=vs.length:=Paired.length r
end
theorem G3{P:Program}{w:World}{k:Key}{u:Value}(r:RelV (kV k) u):(Yb P w).is k u=true:=by
 cases k with
 | inl i=>obtain⟨t,e⟩:=(show ∃t,u=Value.int i t from r);subst e;exact Ju P w i t
 | inr x=>obtain⟨t,e⟩:=(show ∃t,u=Value.str x t from r);subst e;exact Jt P w x t
theorem Jf{P:Program}{w:World}:∀{ks:List Key} {us:List Value},Vals (ks.map kV) us→ItemsAre (Yb P w) ks us
 | [],_,r=>by rw[List.map_nil] at r;cases r;exact .nil
 | k::ks,_,r=>by
  rw[List.map_cons] at r
  cases r with
  | cons h t=>exact .cons (G3 h) (Jf t)
abbrev KT(H:Hp):List (List Key×V)→List (List Key×Addr×Value)→Prop:=Paired fun p q=>p.1=q.1∧H q.2.1=some (.tup (p.1.map kV))∧RelV p.2 q.2.2
theorem KT.val{H:Hp}{kvs:List (List Key×V)}{xs:List (List Key×Addr×Value)}(r:KT H kvs xs)(k:List Key):RelO (valV kvs k) ((atKey xs k).map (·.2)):=by
 induction r with
 | nil=>exact True.intro
 | @cons p q ps qs h t ih=>
  obtain⟨h1,_,h2⟩:=h
  by_cases e:p.1=k
  ·have e':q.1=k:=h1.symm.trans e
   have b:atKey (q::qs) k=some q.2:=by simp[atKey,List.find?_cons,e']
   rw[Ox e,b];exact h2
  ·have e':¬q.1=k:=fun z=>e (h1.trans z)
   have b:atKey (q::qs) k=atKey qs k:=by simp[atKey,List.find?_cons,e']
   rw[Py e,b];exact ih
theorem KT.repl{H:Hp}{kvs:List (List Key×V)}{xs:List (List Key×Addr×Value)}(r:KT H kvs xs)(k:List Key){y:V}{u:Value}(ry:RelV y u):
  KT H (kvs.map fun kv=>if kv.1=k then(kv.1,y) else kv) (xs.map (putAt k u)):=by
 induction r with
 | nil=>exact .nil
 | @cons p q ps qs h t ih=>
  rw[List.map_cons,List.map_cons]
  refine .cons ?_ ih
  obtain⟨h1,h2,h3⟩:=h
  unfold putAt
  by_cases e:p.1=k
  ·rw[if_pos e,if_pos (h1.symm.trans e)];exact⟨h1,h2,ry⟩
  ·rw[if_neg e,if_neg (fun z=>e (h1.trans z))];exact⟨h1,h2,h3⟩
theorem KT.put{H:Hp}{kvs:List (List Key×V)}{xs:List (List Key×Addr×Value)}(r:KT H kvs xs)(k:List Key){b:Addr}{y:V}{u:Value}(hb:H b=some (.tup (k.map kV)))(ry:RelV y u):
  KT H (putK kvs k y) (storedH xs k b u):=by
 have e:(kvs.any fun kv=>decide (kv.1=k))=(atKey xs k).isSome:=by
  rw[Gs,(r.val k).isSome_eq,Option.isSome_map]
 unfold putK storedH
 rw[e]
 by_cases q:(atKey xs k).isSome=true
 ·rw[if_pos q,if_pos q];exact r.repl k ry
 ·rw[if_neg q,if_neg q];exact Paired.snoc r ⟨rfl,hb,ry⟩
theorem KT.keeps{H H':Hp}{kvs:List (List Key×V)}{xs:List (List Key×Addr×Value)}(r:KT H kvs xs)(ht:∀b ys,H b=some (.tup ys)→H' b=some (.tup ys)):KT H' kvs xs:=
 Paired.mapP r fun _ _ z=>⟨z.1,ht _ _ z.2.1,z.2.2⟩
section
variable{P:Program}{w:World}{H:Hp}{h:Heap}{a:Addr}
theorem Zz3{u:HO}(ok:HOk P w H h)(e:Rd H a u):X9 P w H h a u:=e.ok ok
theorem El{kvs:List (Key×V)}(ok:HOk P w H h)(e:Rd H a (.dK kvs)):kvs.length≤sizeLine∧(a==sysModules)=false∧∃vs,KV kvs vs∧h.DictOf (Yb P w) a vs:=
 show X9 P w H h a (.dK kvs) from Zz3 ok e
theorem Zd9{kvs:List (Key×V)}(ok:HOk P w H h)(e:H a=some (.dK kvs)):kvs.length≤sizeLine∧(a==sysModules)=false∧∃vs,KV kvs vs∧h.DictOf (Yb P w) a vs:=El ok (.inl e)
theorem J9{ks:List Key}(ok:HOk P w H h)(e:H a=some (.tup (ks.map kV))):(tupleKind (Yb P w)).is h ks a:=by
 obtain⟨_,its,r,o,h1,h2,n,h3⟩:=(show X9 P w H h a (.tup (ks.map kV)) from ok a _ e)
 exact⟨o,its.toArray,n,h1,h2,h3,by simpa using Jf r⟩
theorem Bo{kvs:List (List Key×V)}(ok:HOk P w H h)(e:Rd H a (.dT kvs)):kvs.length≤sizeLine∧(a==sysModules)=false∧
  ∃xs,KT H kvs xs∧h.DictOfH (tupleKind (Yb P w)) a xs:=by
 obtain⟨z,y,xs,r,o,es,ep,h1,h2,h3,h4,h5⟩:=(show X9 P w H h a (.dT kvs) from Zz3 ok e)
 refine⟨z,y,xs,r,o,es,ep,h1,h2,h3,h4,fun x hx=>?_,h5⟩
 have all:∀{l:List (List Key×V)} {m:List (List Key×Addr×Value)},KT H l m→∀x∈m,(tupleKind (Yb P w)).is h x.1 x.2.1:=by
  intro l m q
  induction q with
  | nil=>intro x hx;exact nomatch hx
  | @cons p q ps qs hq t ih=>
   intro x hx
   rcases List.mem_cons.mp hx with e | hx
   ·subst e
    exact J9 ok (by rw[←hq.1];exact hq.2.1)
   ·exact ih x hx
 exact all r x hx
theorem Y27{kvs:List (List Key×V)}(ok:HOk P w H h)(e:H a=some (.dT kvs)):kvs.length≤sizeLine∧(a==sysModules)=false∧
  ∃xs,KT H kvs xs∧h.DictOfH (tupleKind (Yb P w)) a xs:=Bo ok (.inl e)
end
def DGet(H:Hp)(a:Addr)(y:V)(r:Option V):Prop:=
 (∃kvs k,Rd H a (.dK kvs)∧y=kV k∧r=valV kvs k)∨∃kvs k b,Rd H a (.dT kvs)∧y= .ref b∧H b=some (.tup (k.map kV))∧r=valV kvs k
def DPut(H:Hp)(a:Addr)(y v:V)(H':Hp):Prop:=
 (∃kvs k,H a=some (.dK kvs)∧y=kV k∧kvs.length<sizeLine∧H'=upd H a (.dK (putK kvs k v)))∨
 ∃kvs k b,H a=some (.dT kvs)∧y= .ref b∧H b=some (.tup (k.map kV))∧kvs.length<sizeLine∧H'=upd H a (.dT (putK kvs k v))
theorem DGet.k{H:Hp}{a:Addr}{kvs:List (Key×V)}{k:Key}(e:H a=some (.dK kvs)):DGet H a (kV k) (valV kvs k):= .inl ⟨kvs,k,.inl e,rfl,rfl⟩
theorem DGet.t{H:Hp}{a b:Addr}{kvs:List (List Key×V)}{k:List Key}(e:H a=some (.dT kvs))(eb:H b=some (.tup (k.map kV))):DGet H a (.ref b) (valV kvs k):= .inr ⟨kvs,k,b,.inl e,rfl,eb,rfl⟩
theorem DPut.k{H:Hp}{a:Addr}{kvs:List (Key×V)}{k:Key}{v:V}(e:H a=some (.dK kvs))(hl:kvs.length<sizeLine):DPut H a (kV k) v (upd H a (.dK (putK kvs k v))):= .inl ⟨kvs,k,e,rfl,hl,rfl⟩
theorem DPut.t{H:Hp}{a b:Addr}{kvs:List (List Key×V)}{k:List Key}{v:V}(e:H a=some (.dT kvs))(eb:H b=some (.tup (k.map kV)))(hl:kvs.length<sizeLine):
  DPut H a (.ref b) v (upd H a (.dT (putK kvs k v))):= .inr ⟨kvs,k,b,e,rfl,eb,hl,rfl⟩
section
variable{X:Cx}{pins:List (Addr×Obj)}{σ:St}{H:Hp}{s:Shared}{a:Addr}{y v:V}{u r:Value}{o:Option V}{A:Around}{E:Value→Shared→Prop}
theorem Inv.big(I:Inv X pins σ H s):sysModules<s.heap.objs.size:=by
 have h:mainGlobals<s.heap.objs.size:=(I.mod.glob.keeps I.bk).lt
 exact Nat.lt_trans (by decide) h
theorem Z74{Q:Value→Shared→Prop}(hu:A.units+1<cLine)(I:Inv X pins σ H s)(g:DGet H a y (some v))(ry:RelV y u)(h:∀w' s',Inv X pins σ H s'→RelV v w'→Q w' s'):
  wpAny (model X.prog X.w) A (getItem (.ref a) u) Q E s:=by
 rcases g with⟨kvs,k,e,ey,l⟩ | ⟨kvs,k,b,e,ey,eb,l⟩
 ·subst ey
  obtain⟨z,hd,vs,rel,dd⟩:=El I.hok e
  obtain⟨w',hw,rw'⟩:=RelO.some_of (v:=v) (o:=valueAt vs k) (by rw[l];exact rel.val k)
  exact wpAny_getItem_of (G3 ry) dd.mapOf hw (h w' _ (I.tok _) rw')
 ·subst ey
  cases (show u=Value.ref b from ry)
  obtain⟨z,hd,xs,rel,dd⟩:=Bo I.hok e
  obtain⟨w',hw,rw'⟩:=RelO.some_of (v:=v) (o:=(atKey xs k).map (·.2)) (by rw[l];exact rel.val k)
  obtain⟨p,hp,hp2⟩:=Option.map_eq_some_iff.mp hw
  refine wpAny_getItem_heap (tupleKind_room_in1 hu) (J9 I.hok eb) dd hp ?_
  rw[hp2]
  exact h w' _ (I.tok _) rw'
theorem d_in{Q:Value→Shared→Prop}(hu:A.units+1<cLine)(I:Inv X pins σ H s)(g:DGet H a y o)(ry:RelV y u)(h:∀s',Inv X pins σ H s'→Q (.bool o.isSome) s'):
  wpAny (model X.prog X.w) A (compareOp .In u (.ref a)) Q E s:=by
 rcases g with⟨kvs,k,e,ey,l⟩ | ⟨kvs,k,b,e,ey,eb,l⟩
 ·subst ey
  obtain⟨z,hd,vs,rel,dd⟩:=El I.hok e
  refine wpAny_in_of (G3 ry) hd dd.mapOf ?_
  rw[←(rel.val k).isSome_eq,←l]
  exact h _ (I.tok _)
 ·subst ey
  cases (show u=Value.ref b from ry)
  obtain⟨z,hd,xs,rel,dd⟩:=Bo I.hok e
  refine wpAny_in_heap (tupleKind_room_in1 hu) (J9 I.hok eb) hd dd ?_
  have q:=(rel.val k).isSome_eq
  rw[Option.isSome_map] at q
  rw[←q,←l]
  exact h _ (I.tok _)
theorem Zm3{Q:Value→Shared→Prop}(hu:A.units+1<cLine)(I:Inv X pins σ H s)(g:DGet H a y o)(ry:RelV y u)(h:∀s',Inv X pins σ H s'→Q (.bool (!o.isSome)) s'):
  wpAny (model X.prog X.w) A (compareOp .NotIn u (.ref a)) Q E s:=by
 rcases g with⟨kvs,k,e,ey,l⟩ | ⟨kvs,k,b,e,ey,eb,l⟩
 ·subst ey
  obtain⟨z,hd,vs,rel,dd⟩:=El I.hok e
  refine wpAny_notIn_of (G3 ry) hd dd.mapOf ?_
  rw[←(rel.val k).isSome_eq,←l]
  exact h _ (I.tok _)
 ·subst ey
  cases (show u=Value.ref b from ry)
  obtain⟨z,hd,xs,rel,dd⟩:=Bo I.hok e
  refine wpAny_notIn_heap (tupleKind_room_in1 hu) (J9 I.hok eb) hd dd ?_
  have q:=(rel.val k).isSome_eq
  rw[Option.isSome_map] at q
  rw[←q,←l]
  exact h _ (I.tok _)
theorem Gb{h':Heap}{t':Nat}{ob:HO}(I:Inv X pins σ H s)(mu:Mut (H a))(hs:Heap.SameBut a s.heap h')(he:∃q,h'.get? a=some q)(new:X9 X.prog X.w (upd H a ob) h' a ob):
  Inv X pins σ (upd H a ob) {s with heap:=h',toks:=t'}:=
 I.write (x:=a) (e:=a) mu (.inl rfl) (fun b q hb z=>(hs.2 b hb).trans z) he new
theorem Zi2{P:Program}{w:World}{H':Hp}{h':Heap}{kvs:List (Key×V)}{vs:List (Key×Value)}(z:kvs.length≤sizeLine)(hd:(a==sysModules)=false)(rel:KV kvs vs)(dd:h'.DictOf (Yb P w) a vs):
  X9 P w H' h' a (.dK kvs):=⟨z,hd,vs,rel,dd⟩
theorem Z71{H':Hp}{Q:Unit→Shared→Prop}(hu:A.units+1<cLine)(I:Inv X pins σ H s)(g:DPut H a y v H')(ry:RelV y u)(rv:RelV v r)(h:∀s',Inv X pins σ H' s'→Q () s'):
  wpAny (model X.prog X.w) A (setItem (.ref a) u r) Q E s:=by
 rcases g with⟨kvs,k,e,ey,l,eH⟩ | ⟨kvs,k,b,e,ey,eb,l,eH⟩
 ·subst ey eH
  obtain⟨z,hd,vs,rel,dd⟩:=Zd9 I.hok e
  have hz:vs.length≤sizeLine:=by rw[←rel.length];exact z
  have hl:(putK kvs k v).length≤sizeLine:=by have:=T4 kvs k v;omega
  refine wpAny_setItem_pairs (hsz:=hz) (G3 ry) dd fun h' dd' hs=>h _ ?_
  have he:∃q,h'.get? a=some q:=by obtain⟨q,_,_,hq,_⟩:=dd';exact⟨q,hq⟩
  exact Gb I (by rw[e];exact True.intro) hs he (Zi2 hl hd (rel.put k rv) dd')
 ·subst ey eH
  cases (show u=Value.ref b from ry)
  obtain⟨z,hd,xs,rel,dd⟩:=Y27 I.hok e
  have hz:xs.length≤sizeLine:=by rw[←Paired.length rel];exact z
  have hl:(putK kvs k v).length≤sizeLine:=by have:=T4 kvs k v;omega
  refine wpAny_setItem_heap (hsz:=hz) (tupleKind_room_in1 hu) (J9 I.hok eb) dd fun h' dd' hs=>h _ ?_
  obtain⟨q,es,ep,hq,h2,h3,h4,_,h5⟩:=dd'
  refine Gb I (by rw[e];exact True.intro) hs ⟨q,hq⟩ ⟨hl,hd,_,(rel.put k eb rv).keeps fun c ys ec=>?_,q,es,ep,hq,h2,h3,h4,h5⟩
  rw[Zs (Y24 ec e (fun z=>nomatch z))]
  exact ec
end
section
variable{X:Cx}{pins:List (Addr×Obj)}{σ:St}{H:Hp}{s:Shared}{a:Addr}{kvs:List (Key×V)}{k:Key}{u:Value}{A:Around}{E:Value→Shared→Prop}
theorem Y15{Q:Value→Shared→Prop}(I:Inv X pins σ H s)(e:Rd H a (.dK kvs))(h:∀t s',Inv X pins σ H s'→Q (.int kvs.length t) s'):wpAny (model X.prog X.w) A (call (.builtin "len") [.ref a]) Q E s:=by
 obtain⟨z,hd,vs,rel,dd⟩:=El I.hok e
 refine call_len_dict hd dd (by rw[←rel.length];rw[sizeLine_eq] at z;omega) ?_
 rw[←rel.length]
 exact h _ _ (I.tok _)
end
theorem Jy{X:Cx}{pins:List (Addr×Obj)}{σ:St}{H:Hp}{s:Shared}{a:Addr}{y:V}{o:Option V}(I:Inv X pins σ H s)(g:DGet H a y o):s.TypeIs (.ref a) "dict":=by
 rcases g with⟨kvs,k,e,_,_⟩ | ⟨kvs,k,b,e,_,_,_⟩
 ·obtain⟨_,_,vs,_,dd⟩:=El I.hok e
  exact dd.typeIs
 ·obtain⟨_,_,xs,_,dd⟩:=Bo I.hok e
  exact dd.typeIs
theorem Z88{P:Program}{w:World}{H:Hp}(h:Heap)(hb:sysModules<h.objs.size):X9 P w H (h.push {cls:= .type "dict",data:= .dict #[]}) h.objs.size (.dK []):=
 ⟨Nat.zero_le _,beq_eq_false_iff_ne.mpr (Ne.symm (Nat.ne_of_lt hb)),[],.nil,Heap.DictOf.new h⟩
def E6:List (TE×TE)→St→Hp→(List (V×V)→Hp→Prop)→Prop
 | [],_,H,Q=>Q [] H
 |(tk,tv)::r,σ,H,Q=>tk σ H fun x H1=>tv σ H1 fun y H2=>E6 r σ H2 fun ps H3=>Q ((x,y)::ps) H3
abbrev VV:List (V×V)→List (Value×Value)→Prop:=Paired fun p q=>RelV p.1 q.1∧RelV p.2 q.2
def PPs(X:Cx)(pos:Pos)(keys:List (Option Expr))(values:List Expr)(trs:List (TE×TE)):Prop:=
 ∀(pins:List (Addr×Obj)) (s:Shared) (σ:St) (H:Hp) (Q:List (V×V)→Hp→Prop),Inv X pins σ H s→E6 trs σ H Q→
  wpAny (model X.prog X.w) X.A (evalPairs (pairTrees keys values X.env pos)) (fun vs s'=>∃ps H',Inv X pins σ H' s'∧VV ps vs∧Q ps H') X.xe s
theorem Z05{X:Cx}{pos:Pos}:PPs X pos [] [] []:=fun pins s σ H Q I h=>pairTrees_nil_walk ⟨[],H,I,.nil,h⟩
theorem Ft{X:Cx}{pos:Pos}{k v:Expr}{ks:List (Option Expr)}{vs:List Expr}{tk tv:TE}{trs:List (TE×TE)}(hk:PE X k tk)(hv:PE X v tv)(hr:PPs X pos ks vs trs):
  PPs X pos (some k::ks) (v::vs) ((tk,tv)::trs):=fun pins s σ H Q I h=>
 pairTrees_cons_walk (thn (hk pins s σ H _ I h) fun u s1 ⟨x,H1,I1,rx,q1⟩=>thn (hv pins s1 σ H1 _ I1 q1) fun w2 s2 ⟨y,H2,I2,ry,q2⟩=>
  thn (hr pins s2 σ H2 _ I2 q2) fun ws s3 zz39=>by obtain⟨ps,H3,I3,rel,q3⟩:=zz39;exact⟨(x,y)::ps,H3,I3,.cons ⟨rx,ry⟩ rel,q3⟩)
noncomputable def Tb(kvs more:List (Key×V)):List (Key×V):=more.foldl (fun acc kv=>putK acc kv.1 kv.2) kvs
theorem KV.merge:∀{more:List (Key×V)} {rs:List (Key×Value)} {kvs:List (Key×V)} {vs:List (Key×Value)},KV more rs→KV kvs vs→KV (Tb kvs more) (merged vs rs):=by
 intro more rs kvs vs r
 unfold KV at r
 induction r generalizing kvs vs with
 | nil=>intro q;exact q
 | @cons p q ps qs h t ih=>
  intro r0
  have e:KV (putK kvs p.1 p.2) (stored vs q.1 q.2):=by
   have:=r0.put p.1 h.2
   rw[←h.1];exact this
  exact ih e
theorem Tq:∀(more kvs:List (Key×V)),(Tb kvs more).length≤kvs.length+more.length
 | [],kvs=>by show kvs.length≤kvs.length+0;omega
 | p::r,kvs=>by
  have h1:=Tq r (putK kvs p.1 p.2)
  have h2:=T4 kvs p.1 p.2
  show(Tb (putK kvs p.1 p.2) r).length≤_
  rw[List.length_cons];omega
theorem Qo{P:Program}{w:World}:∀{kvs:List (Key×V)} {ws:List (Value×Value)},VV (kvs.map fun kv=>(kV kv.1,kv.2)) ws→∃rs,Carries (Yb P w) ws rs∧KV kvs rs
 | [],_,r=>by rw[List.map_nil] at r;cases r;exact⟨[],True.intro,.nil⟩
 | p::kvs,_,r=>by
  rw[List.map_cons] at r
  cases r with
  | @cons a b as bs h t=>
   obtain⟨rs,c,q⟩:=Qo (P:=P) (w:=w) t
   obtain⟨b1,b2⟩:=b
   exact⟨(p.1,b2)::rs,⟨G3 h.1,rfl,c⟩,.cons ⟨rfl,h.2⟩ q⟩
def Y48(trs:List (TE×TE)):TE:=fun σ H Q=>∀p,H p=none→E6 trs σ (upd H p (.dK [])) fun ps H2=>H2 p=some (.dK [])∧∃kvs:List (Key×V),ps=kvs.map (fun kv=>(kV kv.1,kv.2))∧kvs.length≤15∧Q (.ref p) (upd H2 p (.dK (Tb [] kvs)))
theorem Z68{X:Cx}{pos:Pos}{keys:List (Option Expr)}{values:List Expr}{trs:List (TE×TE)}(h:PPs X pos keys values trs)(hall:keys.all (·.isSome)=true)(hl:keys.length=values.length)(h0:keys≠[])
  (h15:keys.length≤15):PE X (.Dict keys values pos) (Y48 trs):=by
 intro pins s σ H Q I q
 have hn:=I.hok.fresh (Nat.le_refl s.heap.objs.size)
 have I1:=I.laid (a:=s.heap.objs.size) (o:= .dK []) (h':=s.heap.push {cls:= .type "dict",data:= .dict #[]}) (t':=s.toks) (fun _ _ q=>Heap.get?_push_of_some _ q) (Nat.le_refl _) (Z88 s.heap I.big)
 refine wpAny_Dict_walk (knd:=Yb X.prog X.w) hall hl h0 h15 (thn (h pins _ σ _ _ I1 (q _ hn)) fun ws s2 zz40=>?_)
 obtain⟨ps,H2,I2,rel,e,kvs,ep,lk,q2⟩:=zz40
 subst ep
 obtain⟨rs,c,rk⟩:=Qo (P:=X.prog) (w:=X.w) rel
 obtain⟨z,hd,vs0,r0,dd⟩:=Zd9 I2.hok e
 cases r0
 refine⟨rs,c,dd,fun h' dd' hs=>⟨.ref s.heap.objs.size,_,?_,rfl,q2⟩⟩
 have hz:(Tb [] kvs).length≤sizeLine:=by
  have h1:=Tq kvs []
  rw[List.length_nil] at h1
  rw[sizeLine_eq];omega
 have he:∃q,h'.get? s.heap.objs.size=some q:=by obtain⟨q,_,_,hq,_⟩:=dd';exact⟨q,hq⟩
 exact Gb I2 (by rw[e];exact True.intro) hs he (Zi2 hz hd (rk.merge .nil) dd')
structure M1(X:Cx)(o:Expr)(m:Str)(apos:Pos)(e:Expr)(cpos:Pos):Prop where
 base:attributeBase o m X.env (eval o X.env)=eval o X.env
 few:((backTo cpos (starEach [e] X.env)).all (fun x=> !x.1)&&(backToKw cpos (keywordEach [] X.env)).all (fun x=>x.1.isSome)
  &&decide (([e]:List Expr).length+([]:List Keyword).length+(if ([]:List Keyword).isEmpty then 0 else 1)<30))=true
 line:(apos.endLine==cpos.line)=true
 trees:backTo cpos (starEach [e] X.env)=[(false,eval e X.env)]
structure M2(X:Cx)(o:Expr)(m:Str)(apos:Pos)(e f:Expr)(cpos:Pos):Prop where
 base:attributeBase o m X.env (eval o X.env)=eval o X.env
 few:((backTo cpos (starEach [e,f] X.env)).all (fun x=> !x.1)&&(backToKw cpos (keywordEach [] X.env)).all (fun x=>x.1.isSome)
  &&decide (([e,f]:List Expr).length+([]:List Keyword).length+(if ([]:List Keyword).isEmpty then 0 else 1)<30))=true
 line:(apos.endLine==cpos.line)=true
 trees:backTo cpos (starEach [e,f] X.env)=[(false,eval e X.env),(false,eval f X.env)]
end L2
namespace Att
open PySem PySem.W PySem.Calls PyProof.Rows
theorem Rt{P:Params}{h:Heap}:∀(ns:List Int) (vs:List Value),WellAll P h vs (ns.map WData.int)→IntsAre vs ns:=by
 intro ns
 induction ns with
 | nil=>
  intro vs w
  rw[List.map_nil] at w
  cases w
  exact .nil
 | cons n ns ih=>
  intro vs w
  rw[List.map_cons] at w
  cases w with
  | cons a b=>
   cases a
   exact .cons _ _ (ih _ b)
theorem script_of{l:OpenLaw}{n:Nat}(hn:l.most=some n){P:Params}{h:Heap}{args:List WData}{vals:List Value}
  (hpre:l.row.toRowW.claim.pre args=true) (hwl:WellAll P h vals args):
  ∃a vs ns,vals=[Value.ref a]∧args=[WData.list (ns.map WData.int)]∧h.get? a=some {cls:= .type "list",data:= .seq vs.toArray}∧IntsAre vs ns∧ns.length≤n:=by
 have hsh:WShape.hasAll [] args [.list .int]=true:=(pre_splitW hpre).1
 have hc:l.pre.holds [] {args:=args}=true:=(pre_splitW hpre).2
 obtain⟨d,r,rfl,h1,h2⟩:=hasAllW_cons hsh
 obtain rfl:=hasAllW_nil h2
 obtain⟨xs,rfl,h3⟩:=hasW_list h1
 obtain⟨ns,rfl⟩:=items_int h3
 have hlen:ns.length≤n:=by
  unfold OpenLaw.pre at hc
  have h4:(WTm.not (.lt (.lit (.int (n:Int))) (.len (.arg 0)))).holds [] {args:=[.list (ns.map .int)]}=true:=by
   have h4:=(holds_andW hc).1
   rw[hn] at h4
   exact h4
  have h5:=condW_of h4 (w_not (w_lt w_lit (w_len_list (w_arg rfl))))
  rw[List.length_map] at h5
  refine Nat.le_of_not_lt fun q=>?_
  have q':(n:Int)< ((ns.length:Nat):Int):=by omega
  first
   |(rw[decide_eq_true q'] at h5;exact absurd h5 (by decide))
   |(simp at h5;omega)
 cases hwl with
 | cons w1 w2=>
  cases w2
  cases w1 with
  | list ho hall=>exact⟨_,_,ns,rfl,rfl,ho,Rt ns _ hall,hlen⟩
theorem post_true(l:OpenLaw)(args:List WData):l.row.toRowW.claim.post args (.bool true) args=true:=
 postW_of (r:=l.row.toRowW) (X:=(true==true))
  (show WShape.has [] (.bool true) .bool=true by first | rfl | decide | simp[WShape.has,WShape.arms,WShape.armsAll])
  (show(WTm.eq .res (.lit (.bool true))).value [] {args:=args,res:=some (.bool true),after:=args}=some (.bool (true==true)) from w_eq_bool (w_res rfl) w_lit) rfl
end Att
namespace L2
open PySem PySem.Spec PyProof.Rows
theorem Ve:∀{vs:List Value} {ns:List Int},IntsAre vs ns→Vals (ns.map V.int) vs
 | _,_,.nil=> .nil
 | _,_,.cons n t h=> .cons ⟨t,rfl⟩ (Ve h)
def Only(H:Hp):Prop:=∀b,H b=none∨∃o xs,H b=some (.frz o (.lst xs))
theorem Zb5{P:Program}{w:World}{K:PySem.W.Frag}{mg mb:Str→Option Value}{CX:CXT}{k:Nat}{fa a:Addr}{fd:FuncData}{x:Str}{sp:Sp}{s₁:Shared}{vs:List Value}{ns:List Int}
  (KX:K.In s₁.heap) (hns:s₁.heap.Ns mainGlobals mg) (hb:s₁.heap.Ns builtinsNs mb) (hbb:∀x:Str,x≠"__name__"→mb x=bootBuiltins x) (hlim:s₁.heap.NoLimit) (hg:s₁.gens=#[])
  (ha:s₁.heap.get? a=some {cls:= .type "list",data:= .seq vs.toArray}) (hi:IntsAre vs ns) (hl:ns.length≤sizeLine) (hr:Room k callerA)
  (F:∀base:Heap,K.In base→base.Ns mainGlobals mg→FnOk P w K mg base CX k fa fd [x] sp) (hbind:∀(s:Shared) (u:Value),BindsTo s fd ⟨[u],[]⟩ [(x,u)])
  (hsp:∀H:Hp,Only H→SqL K H a (ns.map V.int)→sp [.ref a] H (fun v _=>v= .bl true) fun _ _ _=>False)
  (hCX:∀H e s',CX [] H s₁ (fun _ _ _=>False) e s'→False):
  codeAny (model P w) callerA (.call (.ref fa) ⟨[.ref a],[]⟩) (fun r s'=>r= .ok (.ret (.bool true))∧OldK s₁.heap s'.heap∧s'.os=s₁.os∧AllBare s'.gens) s₁:=by
 have rv:=Ve hi
 have lenV:=hi.length
 have core:∀H:Hp,Only H→SqL K H a (ns.map V.int)→HOk P w H s₁.heap→(∀b,H b≠none→b=a)→(H a≠none→K.lookup a=none)→
   codeAny (model P w) callerA (.call (.ref fa) ⟨[.ref a],[]⟩) (fun r s'=>r= .ok (.ret (.bool true))∧OldK s₁.heap s'.heap∧s'.os=s₁.os∧AllBare s'.gens) s₁:=by
  intro H hO hS hok hA hK
  have base_of:∀{b:Addr} {o:Obj},s₁.heap.get? b=some o→H b=none→(hidT s₁.heap H).get? b=some o:=fun e n=>Z92 e n
  have noA:∀{b:Addr} {o:Obj} {es:Array DictEntry} {ep:Nat},s₁.heap.get? b=some o→o.data= .dict es ep→H b=none:=fun{b o es ep} e d=>by
   cases q:H b with
   | none=>rfl
   | some u=>
    have e':b=a:=hA b (by rw[q];simp)
    subst e'
    rw[ha] at e;cases e
    have d':Data.seq vs.toArray _=Data.dict es ep:=d
    cases d'
  have nsK:∀{b:Addr} {m:Str→Option Value},s₁.heap.Ns b m→(hidT s₁.heap H).Ns b m:=fun{b m} zz41=>by obtain⟨o,es,ep,e,d,r⟩:=zz41;exact⟨o,es,ep,base_of e (noA e d),d,r⟩
  have hKb:K.In (hidT s₁.heap H):=fun b o e=>base_of (KX b o e) (by
   cases q:H b with
   | none=>rfl
   | some u=>
    have e':b=a:=hA b (by rw[q];simp)
    subst e'
    rw[hK (by rw[q];simp)] at e;cases e)
  have hM:Mod K mg (hidT s₁.heap H):=⟨hKb,nsK hns,⟨mb,nsK hb,hbb⟩,let ⟨mc,h1,h2⟩:=hlim;⟨mc,nsK h1,h2⟩⟩
  have e0:Env0 P w K mg (hidT s₁.heap H) callerA [] s₁ H:=⟨rfl,hM,fun b o e=>Zm7 e,Nat.le_of_eq (B8 _ _),trivial,fun b hb=>absurd (show b∈([]:List Addr) from hb) (by simp),hok,.of_eq hg⟩
  refine codeAny_mono ((F _ hKb (nsK hns)).run callerA [] s₁ H ⟨[.ref a],[]⟩ [.ref a] [.ref a] _ _ hr e0 (hbind s₁ (.ref a)) (.cons rfl .nil) (hsp H hO hS)) fun r s' h=>?_
  cases r with
  | error e=>exact(hCX H e s' h).elim
  | ok fl=>
   cases fl with
   | next=>exact False.elim h
   | brk=>exact False.elim h
   | cont=>exact False.elim h
   | ret u=>
    obtain⟨v,H',os,bare,un,hok',r',q⟩:=h
    have q':v= .bl true:=q
    subst q'
    obtain rfl:u=Value.bool true:=r'
    refine⟨rfl,OldK.of_keep fun b o e=>?_,os,bare⟩
    cases q:H b with
    | none=>exact un.keep b o e q (by intro z;exact absurd (show b∈([]:List Addr) from z) (by simp)) (by simp)
    | some u=>
     rcases hO b with z | ⟨ob,xs,z⟩
     ·rw[q] at z;cases z
     ·have z2:=un.frzs b ob _ z
      obtain⟨e1,_⟩:=hok b _ z
      obtain⟨e2,_⟩:=hok' b _ z2
      rw[e] at e1;cases e1
      exact e2
 cases hk:K.lookup a with
 | some o=>
  have e:=KX a o hk
  rw[ha] at e
  cases e
  refine core (fun _=>none) (fun _=> .inl rfl) (.inr ⟨_,vs.toArray,_,hk,rfl,rfl,rfl,by rw[List.size_toArray,lenV];exact hl,by simpa using rv⟩) (fun b u z=>by have z':(none:Option HO)=some u:=z;cases z') (fun b z=>absurd rfl z) fun z=>absurd rfl z
 | none=>
  refine core (fun b=>if b=a then some (.frz {cls:= .type "list",data:= .seq vs.toArray} (.lst (ns.map V.int))) else none) (fun b=>?_) (.inl (.inr ⟨{cls:= .type "list",data:= .seq vs.toArray},if_pos rfl⟩)) (fun b u z=>?_) (fun b z=>?_) fun _=>hk
  ·by_cases hb:b=a
   ·exact .inr ⟨_,_,if_pos hb⟩
   ·exact .inl (if_neg hb)
  ·by_cases hb:b=a
   ·have z':=(if_pos hb).symm.trans z
    cases z'
    subst hb
    exact⟨ha,by rw[List.length_map];exact hl,vs,_,rv,ha⟩
   ·have z':=(if_neg hb).symm.trans z
    cases z'
  ·by_cases hb:b=a
   ·exact hb
   ·exact absurd (if_neg hb) z
end L2
/- THE LAST THEOREM (shape;LID,My.* are yours):
  My.Adr:a structure of the addresses that your layer names (classes,functions);My.Txt K t:a structure (Prop) of the equations over K;
  My.txt_mk:{K} {implicit addresses ..} (e1:nsIn K mainGlobals "law"=some (some (.ref f))) (e2:K.lookup f=some ⟨oc,od,.func (fnOf "law" "law" params body scope dV kV doc pm an cdv ct),sl⟩) (e3:codeIn K cdv "law"=true) ..:∃t,My.Txt K t
set_option maxRecDepth 100000 in
set_option maxHeartbeats 0 in
theorem PySem.Challenge.cw_LID_holds : PySem.Challenge.rw_LID.Holds := by
 w_on;o_law;k_head;(case hw=>w_witness2)
 k_fill
 refine L2.walk_of (l:=PySem.Challenge.rw_LID) (n:=63) (k:=40) (x:="script") (CX:=fun w=> ..) (sp:=fun _=>My.sp_law) rfl (by decide) rfl ⟨rfl,by decide,by decide⟩ (fun w h Y=>PySem.W.kIn_of Y) ?F ?S ?C
 case F=>
  intro w mg fa h KX G hmg
  have T:∃t,My.Txt (L2.KOf KX) t:=by
   dsimp only[L2.KOf] -- K must stand as «<heap const>w.params» for k_is
   refine' My.txt_mk ?e1 ?e2 ?e3 ..
   (case e1=>PySem.W.k_is) -- in the order:a name ->its address ->its object ->its parts
   (case e2=>PySem.W.k_is)
   ..
  obtain⟨t,T⟩:=T
  have e0:=hmg.symm.trans (PySem.W.mg_of KX G T.law)
  cases e0 -- fa is the law's own address
  exact⟨_,fun s u=> .of_eq rfl,fun base kb nb=>My.law_fn T kb nb⟩ -- if «.of_eq rfl» comes too early:refine' ⟨_,?b,fun base kb nb=>My.law_fn T kb nb⟩;exact fun s u=> .of_eq rfl
 case S=>exact fun w H a ns hl hO hS=> ..
 case C=>exact ..
(the tactic k_is has no namespace:write k_is) -/
namespace L2
open PySem PySem.Spec PyProof.Rows
noncomputable def Zn(s:Stmt):Arguments:=match s with
 | .FunctionDef _ a _ _ _ _ _ _ _ _=>a
 | _=>{posonlyargs:=[],args:=[],vararg:=none,kwonlyargs:=[],kw_defaults:=[],kwarg:=none,defaults:=[]}
noncomputable def Z5(s:Stmt):List Stmt:=match s with
 | .FunctionDef _ _ b _ _ _ _ _ _ _=>b
 | _=>[]
noncomputable def Z3(s:Stmt):Scope:=match s with
 | .FunctionDef _ _ _ _ _ _ sc _ _ _=>sc
 | _=>{kind:= .function,names:=[],isGenerator:=false,isCoroutine:=false}
noncomputable abbrev CX0:CXT:=fun _ _ _ _ _ _=>False
abbrev E0:XK:=fun _ _ _=>False
structure Fun(K:PySem.W.Frag)(x qual:Str)(st:Stmt)(f:Addr)(fd:FuncData):Prop where
 ex:∃(oc:Value) (od:Option Addr) (dV kV doc pm:Value) (an:Option Addr) (cdv ct:Value) (osl:Array (Option Value)),
  fd=PySem.W.fnOf x qual (Zn st) (Z5 st) (Z3 st) dV kV doc pm an cdv ct∧K.lookup f=some ⟨oc,od,.func fd,osl⟩∧PySem.W.codeIn K cdv qual=true
 kp:PySem.W.keepIn K (.ref f)=true
section
variable{P:Program}{w:World}{K:PySem.W.Frag}{mg:Str→Option Value}{base:Heap}
theorem Fun.ok{x qual:Str}{st:Stmt}{f:Addr}{fd:FuncData}{N ps:List Str}{k:Nat}{sp:Sp}(F:Fun K x qual st f fd)(S:FnScope N ps (Z3 st))(len:∀vs H Q E,sp vs H Q E→vs.length=ps.length)
  (hbody:∀(cdv:Value) (A:Around) (outer:List Env) (s:Shared) (H:Hp) (vs:List V) (Q:VK) (E:XK),Room k (A.deeper (envOfC qual (Z3 st) s.heap.objs.size f cdv))→sp vs H Q E→
   ∃t,PSs (cxOf CX0 P w K mg base N qual (Z3 st) f cdv A outer s H E).nox (Z5 st) t∧t {nx:=fun _ H'=>Q .non H',rt:=Q} (start N vs) H):FnOk P w K mg base CX0 (k+1) f fd ps sp:=by
 obtain⟨oc,od,dV,kV,doc,pm,an,cdv,ct,osl,rfl,lk,hcd⟩:=F.ex
 refine Y55 lk hcd S len fun A outer s H vs Q E hr hsp=>?_
 obtain⟨t,h,q⟩:=hbody cdv A outer s H vs Q E hr hsp
 exact⟨t,h.nox,q⟩
theorem Y3{x qual:Str}{st:Stmt}{f:Addr}{oc:Value}{od an:Option Addr}{osl:Array (Option Value)}{dV kV doc pm cdv ct:Value}(l:K.lookup f=some ⟨oc,od,.func (PySem.W.fnOf x qual (Zn st) (Z5 st) (Z3 st) dV kV doc pm an cdv ct),osl⟩)
  (c:PySem.W.codeIn K cdv qual=true) (k:PySem.W.keepIn K (.ref f)=true):Fun K x qual st f (PySem.W.fnOf x qual (Zn st) (Z5 st) (Z3 st) dV kV doc pm an cdv ct):=⟨⟨oc,od,dV,kV,doc,pm,an,cdv,ct,osl,rfl,l,c⟩,k⟩
end
def Same(H H':Hp):Prop:=∀b o,H b=some o→H' b=some o
theorem Same.refl(H:Hp):Same H H:=fun _ _ h=>h
theorem Same.trans{H H1 H2:Hp}(a:Same H H1)(b:Same H1 H2):Same H H2:=fun c o h=>b c o (a c o h)
section
variable{X:Cx}
theorem Z58:Wt X (.builtin "len") (fun xs H Q=>∃a kvs,xs=[V.ref a]∧H a=some (.dK kvs)∧Q (.int kvs.length) H):=by
 intro pins s σ H xs us Q I r h
 obtain⟨a,kvs,rfl,ha,q⟩:=h
 obtain⟨u,rfl,ru⟩:=Q6 r
 cases ru
 exact Y15 I (.inl ha) fun t s' I'=>⟨.int kvs.length,H,I',⟨t,rfl⟩,q⟩
end
end L2
namespace L3
open PySem PySem.Spec PyProof.Rows L2
def Bits(n:Nat)(x:Int):Prop:=x.natAbs<2 ^ n
theorem C7{m n:Nat}(h:m<2 ^ n)(hn:0<n):m.log2<n:=by
 rcases Nat.eq_zero_or_pos m with h0 | h0
 ·rw[h0];exact hn
 ·exact(Nat.log2_lt (Nat.ne_of_gt h0)).mpr h
section
variable{X:Cx}
def Z16(_ j:Int):Prop:=j≠0∧j.natAbs.log2<9000
theorem Ze5:OpR X (binaryOp .FloorDiv) (rI Z16 fun i j=> .int (i.fdiv j)):=opI fun _ _ _ _ _ _ _ hc q=>floordiv_int hc.1 q (.inl (PyProof.noPylong_of_log2 hc.2))
theorem Zp1:OpR X (binaryOp .Mult) (rI IntMulOk fun i j=> .int (i * j)):=opI fun _ _ _ _ _ _ _ hc q=>mul_int q hc
def rIsB(K:PySem.W.Frag):List V→Hp→VK→Prop:=fun xs H Q=>∃x n t b,xs=[x,.ty n]∧TyOf K H x t∧PySem.W.kitOne K t (.type n)=some b∧Q (.bl b) H
theorem Zg1:Wt X (.builtin "isinstance") (rIsB X.K):=by
 intro pins s σ H xs us Q I r h
 obtain⟨x,n,t,b,rfl,ty,e,q⟩:=h
 obtain⟨u,v,rfl,ru,rv⟩:=Ga r
 obtain rfl:v=Value.type n:=rv
 exact B9 I ru ty e fun tk=>⟨.bl b,H,I.tok tk,rfl,q⟩
end
mutual
def Rep(K:PySem.W.Frag)(H:Hp):PyData→V→Prop
 | .none,v=>v= .non
 | .bool b,v=>v= .bl b
 | .int i,v=>v= .int i
 | .str x,v=>v= .str x
 | .list ds,v=>∃a xs,v= .ref a∧SqL K H a xs∧Wd K H ds xs
 | .tuple ds,v=>∃a xs,v= .ref a∧SqT K H a xs∧Wd K H ds xs
 | .dict _,_=>False
def Wd(K:PySem.W.Frag)(H:Hp):List PyData→List V→Prop
 | [],xs=>xs=[]
 | d::ds,xs=>∃v vs,xs=v::vs∧Rep K H d v∧Wd K H ds vs
end
section
variable{X:Cx}{pins:List (Addr×Obj)}{σ:L2.St}{H:Hp}{s:Shared}
mutual
theorem Rep.reads(I:Inv X pins σ H s):∀(d:PyData) (v:V) (u:Value),Rep X.K H d v→RelV v u→∃as,Reads s.heap u d as
 | .none,v,u,h,r=>by
  unfold Rep at h;subst h
  cases (show u=Value.none from r)
  exact⟨[],.none⟩
 | .bool b,v,u,h,r=>by
  unfold Rep at h;subst h
  cases (show u=Value.bool b from r)
  exact⟨[],.bool b⟩
 | .int i,v,u,h,r=>by
  unfold Rep at h;subst h
  obtain⟨t,rfl⟩:=(show ∃t,u=Value.int i t from r)
  exact⟨[],.int i t⟩
 | .str x,v,u,h,r=>by
  unfold Rep at h;subst h
  obtain⟨t,rfl⟩:=(show ∃t,u=Value.str x t from r)
  exact⟨[],.str x t⟩
 | .list ds,v,u,h,r=>by
  unfold Rep at h
  obtain⟨a,xs,rfl,hq,ha⟩:=h
  cases (show u=Value.ref a from r)
  obtain⟨its,rv,⟨o,n,h1,h2,_,h4⟩,_⟩:=I.list hq
  obtain⟨as,hr⟩:=Wd.reads I ds xs its ha rv
  exact⟨_,.list h1 h2 h4 hr⟩
 | .tuple ds,v,u,h,r=>by
  unfold Rep at h
  obtain⟨a,xs,rfl,hq,ha⟩:=h
  cases (show u=Value.ref a from r)
  obtain⟨its,rv,⟨o,h1,h2,n,h4⟩,_⟩:=I.tuple hq
  obtain⟨as,hr⟩:=Wd.reads I ds xs its ha rv
  exact⟨_,.tuple h1 h2 h4 hr⟩
 | .dict kvs,v,u,h,r=>by
  unfold Rep at h
  exact h.elim
theorem Wd.reads(I:Inv X pins σ H s):∀(ds:List PyData) (xs:List V) (us:List Value),Wd X.K H ds xs→Vals xs us→∃as,ReadsAll s.heap us ds as
 | [],xs,us,h,r=>by
  unfold Wd at h;subst h
  cases r
  exact⟨[],.nil⟩
 | d::ds,xs,us,h,r=>by
  unfold Wd at h
  obtain⟨v,vs,rfl,h1,h2⟩:=h
  cases r with
  | cons r1 r2=>
   obtain⟨as,q1⟩:=Rep.reads I d v _ h1 r1
   obtain⟨bs,q2⟩:=Wd.reads I ds vs _ h2 r2
   exact⟨_,.cons q1 q2⟩
end
end
section
variable{X:Cx}
def rEqD(K:PySem.W.Frag)(neg:Bool):R2:=fun x y H Q=>∃da db,Rep K H da x∧Rep K H db y∧da.canLay0=true∧db.canLay0=true∧min da.depth db.depth≤60∧Q (.bl (if neg then !PyData.eqv da db else PyData.eqv da db)) H
theorem Zz0(hu:X.A.units+64<cLine):OpR X (compareOp .Eq) (rEqD X.K false):=by
 intro pins s σ H x y v u Q I rx ry h
 obtain⟨da,db,h1,h2,h3,h4,h5,q⟩:=h
 obtain⟨as,q1⟩:=Rep.reads I da x v h1 rx
 obtain⟨bs,q2⟩:=Rep.reads I db y u h2 ry
 exact PySem.SeqAt.compareEq_reads q1 q2 h3 h4 (by omega) ⟨.bl _,H,I,rfl,q⟩
end
end L3
namespace L3
open PySem PySem.W PySem.Calls PyProof.Rows L2
noncomputable def bigN:Nat:=1048576
theorem Q1:∀(ns:List Int) (i:Int),i∈ns→WData.weight (.int i)≤WData.weightAll (ns.map WData.int)
 | [],_,h=>nomatch h
 | n::r,i,h=>by
  rw[List.map_cons]
  have e:WData.weightAll (WData.int n::r.map WData.int)=WData.weight (.int n)+1+WData.weightAll (r.map WData.int):=by simp[WData.weightAll]
  rw[e]
  rcases List.mem_cons.mp h with q | q
  ·subst q;omega
  ·have:=Q1 r i q;omega
theorem Rv{ns:List Int}(h:WData.layableAll [WData.list (ns.map WData.int)]=true):∀i∈ns,Bits bigN i:=by
 intro i hi
 have h1:WData.layable (WData.list (ns.map WData.int))=true:=by simpa[WData.layableAll] using h
 unfold WData.layable at h1
 rw[Bool.and_eq_true] at h1
 have h2:WData.weight (WData.list (ns.map WData.int))≤2 ^ 20:=of_decide_eq_true h1.2
 have h3:WData.weight (WData.list (ns.map WData.int))=WData.weightAll (ns.map WData.int):=by simp[WData.weight]
 have h4:=Q1 ns i hi
 have h5:WData.weight (.int i)=if i==0 then 0 else i.natAbs.log2+1:=by simp[WData.weight]
 unfold Bits bigN
 by_cases h0:i=0
 ·subst h0;exact Nat.two_pow_pos _
 ·have hb:(i==0)=false:=by simpa using h0
  rw[hb] at h5
  have h6:i.natAbs.log2<1048576:=by
   have:(2:Nat) ^ 20=1048576:=by decide
   simp only[Bool.false_eq_true,if_false] at h5
   omega
  exact(Nat.log2_lt (by omega)).mp h6
theorem Np{l:OpenLaw}{n:Nat}{q:Program}{loose:List Str}{XP:(Str→Option Value)→Heap→Prop}{YP:World→Heap→Prop}{d:DefRec}(hn:l.most=some n)(hdf:d.params.defaults=[])
  (call:∀(w:World) (s₀ s₁:Shared) (mg mb:Str→Option Value) (fa:Addr) (o:Obj) (pm cd doc:Value) (a:Addr) (vs:List Value) (ns:List Int),
   Ground q loose [] XP w s₀ mg mb s₁.heap→YP w s₁.heap→mg d.name=some (.ref fa)→
   s₁.heap.get? a=some {cls:= .type "list",data:= .seq vs.toArray}→IntsAre vs ns→ns.length≤n→(∀i∈ns,Bits bigN i)→s₁.gens=#[]→
   codeAny (model l.prog w) callerA (.call (.ref fa) ⟨[.ref a],[]⟩) (fun r s'=>r= .ok (.ret (.bool true))∧OldK s₁.heap s'.heap∧s'.os=s₁.os∧AllBare s'.gens) s₁):
  WalkO q loose XP YP l.row.toRowW d [] (fun f vs=>PySem.call f vs):=by
 intro w s₀ s₁ mg mb G Y fa o pm cd doc dV kV ho hd hcd hD hmg hg args vals as hpre hlay hrd hwl hlo
 obtain⟨a,vs,ns,rfl,rfl,hobj,hints,hlen⟩:=Att.script_of hn hpre hwl
 refine enter_call (codeAny_mono (call w s₀ s₁ mg mb fa o pm cd doc a vs ns G Y hmg hobj hints hlen (Rv hlay) hg) fun r s' hq=>?_)
 obtain⟨rfl,h2,h3,h4⟩:=hq
 exact⟨.inl ⟨.bool true,.bool true,[],rfl,fun _=>rfl,.bool true,Att.post_true l _,fun _=>⟨List.Pairwise.nil,fun _ hm=>(nomatch hm)⟩⟩,h2,h3,h4⟩
theorem Y10{l:PySem.W.OpenLaw}{n k:Nat}{q:Program}{loose:List Str}{XP:(Str→Option Value)→Heap→Prop}{YP:World→Heap→Prop}{d:DefRec}{K:Params→PySem.W.Frag}{CX:World→CXT}{sp:World→Sp}{x:Str}
  (hn:l.most=some n) (hn2:n≤sizeLine) (hdf:d.params.defaults=[]) (hr:Room k callerA) (hY:∀(w:World) (h:Heap),YP w h→(K w.params).In h)
  (F:∀(w:World) (mg:Str→Option Value) (fa:Addr) (h:Heap),(K w.params).In h→h.Ns mainGlobals mg→mg d.name=some (.ref fa)→
   ∃fd:FuncData,(∀(s:Shared) (u:Value),BindsTo s fd ⟨[u],[]⟩ [(x,u)])∧∀base:Heap,(K w.params).In base→base.Ns mainGlobals mg→FnOk l.prog w (K w.params) mg base (CX w) k fa fd [x] (sp w))
  (hsp:∀(w:World) (H:Hp) (a:Addr) (ns:List Int),ns.length≤n→(∀i∈ns,Bits bigN i)→Only H→SqL (K w.params) H a (ns.map V.int)→sp w [.ref a] H (fun v _=>v= .bl true) fun _ _ _=>False)
  (hCX:∀(w:World) (H:Hp) (s:Shared) (e:Value) (s':Shared),CX w [] H s (fun _ _ _=>False) e s'→False):
  PySem.W.WalkO q loose XP YP l.row.toRowW d [] (fun f vs=>PySem.call f vs):=by
 refine Np hn hdf fun w s₀ s₁ mg mb fa o pm cd doc a vs ns G Y hmg hobj hints hlen hbits hg=>?_
 have KX:=hY w _ Y
 obtain⟨fd,hb,hF⟩:=F w mg fa _ KX G.T.g hmg
 exact Zb5 KX G.T.g G.T.b G.T.builtins G.T.nolimit hg hobj hints (Nat.le_trans hlen hn2) hr hF hb (fun H hO hS=>hsp w H a ns hlen hbits hO hS) fun H e s'=>hCX w H s₁ e s'
end L3
namespace L3
open PySem
section
variable{P:Program}{w:World}{A:Around}{R:Result→Shared→Prop}{s:Shared}{elt tg iter c:Expr}{scope:Scope}{pos:Pos}{it acc:Value}{env:Env}
abbrev noE:Value→Shared→Prop:=fun _ _=>False
theorem C5(I:Nat→Shared→Prop)
  (turn:∀n s,I n s→wpAny (model P w) A (pyNext it) (fun r s1=>match r with
   | none=>R (.ok .next) s1
   | some v=>wpAny (model P w) A (letOwnedTupleGo tg it v) (fun _ s2=>wpAny (model P w) A (assign tg env v) (fun _ s3=>wpAny (model P w) A (eval elt env) (fun x s4=>
     wpAny (model P w) A (call (.builtin "list.append") [acc,x]) (fun _ s5=>∃m,m<n∧I m s5) noE s4) noE s3) noE s2) noE s1) noE s)
  (n:Nat) (h:I n s):codeAny (model P w) A (.compLoop (.ListComp elt [⟨tg,iter,[],0⟩] scope pos) 0 it acc env) R s:=by
 refine codeAny_loop rfl I (fun m z hI=>?_) n h
 show wpAny _ A ((compTurn (.ListComp elt [⟨tg,iter,[],0⟩] scope pos) 0 it acc env).onRaise fun x=>do noteFrame x env;theTreesLotGoes x) _ _ z
 refine wpAny_noted ?_
 rw[compTurn_list1]
 refine wpAny_bind (wpAny_standAt (wpAny_bind (wpAny_mono (turn m z hI) (fun r s1 h1=>?_) fun _ _ f=>f.elim)))
 cases r with
 | none=>exact wpAny_pure h1
 | some v=>
  refine wpAny_bind (wpAny_mono h1 (fun _ s2 h2=>?_) fun _ _ f=>f.elim)
  refine wpAny_bind (wpAny_mono h2 (fun _ s3 h3=>?_) fun _ _ f=>f.elim)
  refine wpAny_bind (wpAny_bind (wpAny_mono h3 (fun x s4 h4=>?_) fun _ _ f=>f.elim))
  exact wpAny_bind (wpAny_mono h4 (fun _ s5 h5=>wpAny_pure (wpAny_pure ⟨rfl,h5⟩)) fun _ _ f=>f.elim)
theorem C9(I:Nat→Shared→Prop)
  (turn:∀n s,I n s→wpAny (model P w) A (pyNext it) (fun r s1=>match r with
   | none=>R (.ok .next) s1
   | some v=>wpAny (model P w) A (letOwnedTupleGo tg it v) (fun _ s2=>wpAny (model P w) A (assign tg env v) (fun _ s3=>wpAny (model P w) A (isTrue c env (eval c env)) (fun ok s4=>
     if ok=true then wpAny (model P w) A (eval elt env) (fun x s5=>wpAny (model P w) A (call (.builtin "list.append") [acc,x]) (fun _ s6=>∃m,m<n∧I m s6) noE s5) noE s4
     else ∃m,m<n∧I m s4) noE s3) noE s2) noE s1) noE s)
  (n:Nat) (h:I n s):codeAny (model P w) A (.compLoop (.ListComp elt [⟨tg,iter,[c],0⟩] scope pos) 0 it acc env) R s:=by
 refine codeAny_loop rfl I (fun m z hI=>?_) n h
 show wpAny _ A ((compTurn (.ListComp elt [⟨tg,iter,[c],0⟩] scope pos) 0 it acc env).onRaise fun x=>do noteFrame x env;theTreesLotGoes x) _ _ z
 refine wpAny_noted ?_
 rw[compTurn_list]
 refine wpAny_bind (wpAny_standAt (wpAny_bind (wpAny_mono (turn m z hI) (fun r s1 h1=>?_) fun _ _ f=>f.elim)))
 cases r with
 | none=>exact wpAny_pure h1
 | some v=>
  refine wpAny_bind (wpAny_mono h1 (fun _ s2 h2=>?_) fun _ _ f=>f.elim)
  refine wpAny_bind (wpAny_mono h2 (fun _ s3 h3=>?_) fun _ _ f=>f.elim)
  refine wpAny_bind (wpAny_tests_one (wpAny_mono h3 (fun ok s4 h4=>?_) fun _ _ f=>f.elim))
  cases ok with
  | false=>exact wpAny_pure ⟨rfl,h4⟩
  | true=>
   refine wpAny_bind (wpAny_bind (wpAny_mono h4 (fun x s5 h5=>?_) fun _ _ f=>f.elim))
   exact wpAny_bind (wpAny_mono h5 (fun _ s6 h6=>wpAny_pure (wpAny_pure ⟨rfl,h6⟩)) fun _ _ f=>f.elim)
end
theorem Tt{env:Env}:∀(names:List (Str×NameKind)) (acc:List (Str×Addr)),(∀n,(n,NameKind.free)∈names→∃c,env.cells.lookup n=some c)→
  (∀x c,acc.lookup x=some c→env.cells.lookup x=some c)→
  ∃cl,(forIn names acc fun(x:Str×NameKind) (cs:List (Str×Addr))=>match x with
   |(name,kind)=>if (kind==NameKind.free)=true then do let c ←cellOf env name;pure (ForInStep.yield ((name,c)::cs)) else pure (ForInStep.yield cs):Sem (List (Str×Addr)))=pure cl∧
   (∀x c,cl.lookup x=some c→env.cells.lookup x=some c)∧(∀n,(n,NameKind.free)∈names→∃c,cl.lookup n=some c)∧∀x c,acc.lookup x=some c→∃c',cl.lookup x=some c'
 | [],acc,_,ha=>⟨acc,rfl,ha,(fun _ h=>nomatch h),fun x c e=>⟨c,e⟩⟩
 |(n,k)::r,acc,hn,ha=>by
  by_cases hk:k= .free
  ·subst hk
   obtain⟨c,hc⟩:=hn n List.mem_cons_self
   obtain⟨cl,e,h1,h2,h3⟩:=Tt r ((n,c)::acc) (fun m hm=>hn m (List.mem_cons_of_mem _ hm)) (fun x d hx=>by
    rw[List.lookup_cons] at hx
    cases q:x==n with
    | true=>rw[q] at hx;cases hx;rw[eq_of_beq q];exact hc
    | false=>rw[q] at hx;exact ha x d hx)
   refine⟨cl,?_,h1,fun m hm=>?_,fun x d hx=>?_⟩
   ·rw[List.forIn_cons]
    show(bind (bind (cellOf env n) _) _:Sem _)=_
    unfold cellOf
    rw[hc]
    exact e
   ·rcases List.mem_cons.mp hm with q | q
    ·cases q;exact h3 n c (by simp[List.lookup_cons])
    ·exact h2 m q
   ·cases q:x==n with
    | true=>exact h3 x c (by rw[List.lookup_cons,q])
    | false=>exact h3 x d (by rw[List.lookup_cons,q];exact hx)
  ·have hb:(k==NameKind.free)=false:=by simpa using hk
   obtain⟨cl,e,h1,h2,h3⟩:=Tt r acc (fun m hm=>hn m (List.mem_cons_of_mem _ hm)) ha
   refine⟨cl,?_,h1,fun m hm=>?_,h3⟩
   ·rw[List.forIn_cons]
    show(bind (if (k==NameKind.free)=true then _ else _) _:Sem _)=_
    rw[hb]
    exact e
   ·rcases List.mem_cons.mp hm with q | q
    ·cases q;exact absurd rfl hk
    ·exact h2 m q
theorem Vr{env:Env}{scope:Scope}(hn:∀n,(n,NameKind.free)∈scope.names→∃c,env.cells.lookup n=some c):
  ∃cl,closureFor scope env=pure cl∧(∀x c,cl.lookup x=some c→env.cells.lookup x=some c)∧∀n,(n,NameKind.free)∈scope.names→∃c,cl.lookup n=some c:=by
 obtain⟨cl,e,h1,h2,_⟩:=Tt scope.names [] hn (fun x c h=>by cases h)
 refine⟨cl,?_,h1,h2⟩
 exact(congrArg (fun t:Sem (List (Str×Addr))=>bind t fun z=>pure z) e).trans rfl
end L3
namespace L3
open PySem PySem.Spec PyProof.Rows L2
noncomputable def cxC(X:Cx)(N':List Str)(scope:Scope)(cl:List (Str×Addr))(C:Addr)(fp:List Addr)(pins:List (Addr×Obj))(s:Shared)(H:Hp):Cx where
 prog:=X.prog
 w:=X.w
 K:=X.K
 mg:=X.mg
 base:=X.base
 A:=X.A
 N:=N'
 s₀:=s
 H₀:=H
 env:=compEnvC scope cl C X.env
 outer:=X.stack
 stack:=X.stack
 ex:=fp
 fn:=fun x=>scope.names.any fun y=>y.1==x&&y.2== .cell
 calm:=X.calm
 pn:=X.pn++pins
 xe:=noE
noncomputable def Ws(scope dsc:Scope):Scope:=
 {scope with names:=scope.names.map fun(n,k)=>if (k== .free&&dsc.kind== .function&&dsc.names.lookup n==some .cell) then(n,.cell) else(n,k)}
noncomputable def Si(js:List (Option Nat))(σ:L2.St):L2.St:=js.map fun o=>o.bind fun j=>(σ[j]?).join
structure CompScope(dsc:Scope)(dN N':List Str)(js:List (Option Nat))(scope:Scope):Prop where
 kind:scope.kind= .function
 nd:(scope.names.map (·.1)).Nodup
 loc:∀y∈scope.names,y.2= .local→scope.names.lookup y.1=some .local
 len:js.length=N'.length
 cap:∀(i:Nat) (x:Str) (j:Nat),N'[i]?=some x→js[i]?=some (some j)→dN[j]?=some x∧(x,NameKind.free)∈scope.names
 free:∀n,(n,NameKind.free)∈scope.names→dsc.names.lookup n=some .cell∨dsc.names.lookup n=some .free
 seen:∀n,(n,NameKind.free)∈scope.names→(Ws scope dsc).names.lookup n=some .cell∨(Ws scope dsc).names.lookup n=some .free
noncomputable def Ta(dsc:Scope)(dN N':List Str)(js:List (Option Nat))(scope:Scope):Bool:=
 scope.kind== .function&&decide ((scope.names.map (·.1)).Nodup)&&scope.names.all (fun y=>y.2 != .local || scope.names.lookup y.1==some .local)&&js.length==N'.length&&
 (N'.zip js).all (fun p=>match p.2 with | some j=>dN[j]?==some p.1&&scope.names.contains (p.1,NameKind.free) | none=>true)&&
 scope.names.all (fun y=>y.2 != .free || ((dsc.names.lookup y.1==some .cell || dsc.names.lookup y.1==some .free)&&((Ws scope dsc).names.lookup y.1==some .cell || (Ws scope dsc).names.lookup y.1==some .free)))
theorem CompScope.of{dsc:Scope}{dN N':List Str}{js:List (Option Nat)}{scope:Scope}(h:Ta dsc dN N' js scope=true):CompScope dsc dN N' js scope:=by
 unfold Ta at h
 simp only[Bool.and_eq_true,List.all_eq_true,beq_iff_eq,bne_iff_ne,Bool.or_eq_true,decide_eq_true_eq] at h
 obtain⟨⟨⟨⟨⟨h1,h2⟩,h3⟩,h4⟩,h5⟩,h6⟩:=h
 refine⟨h1,h2,fun y hy hl=>(h3 y hy).resolve_left fun z=>z hl,h4,fun i x j e1 e2=>?_,fun n hn=>?_,fun n hn=>?_⟩
 ·have hm:(x,some j)∈N'.zip js:=List.mem_of_getElem? (i:=i) (by rw[List.getElem?_zip_eq_some];exact⟨e1,e2⟩)
  have q:=h5 _ hm
  simp only[Bool.and_eq_true,beq_iff_eq,List.contains_iff_mem] at q
  exact q
 ·exact((h6 _ hn).resolve_left fun z=>z rfl).1
 ·exact((h6 _ hn).resolve_left fun z=>z rfl).2
theorem T1{env:Env}{x:Str}{k:NameKind}:∀{names:List (Str×NameKind)},
  (names.map fun(n,k)=>if (k==NameKind.free&&env.scope.kind== .function&&env.kindOf n==some .cell) then(n,NameKind.cell) else(n,k)).lookup x=some k→(k= .cell∨k= .free)→(x,NameKind.free)∈names∨(x,NameKind.cell)∈names
 | [],h,_=>by simp at h
 |(n,q)::r,h,hk=>by
  rw[List.map_cons] at h
  by_cases hx:x=n
  ·subst hx
   have hq:q= .free∨q= .cell:=by
    by_cases c:(q==NameKind.free&&env.scope.kind== .function&&env.kindOf x==some .cell)=true
    ·rw[Bool.and_eq_true,Bool.and_eq_true] at c
     exact .inl (eq_of_beq c.1.1)
    ·simp only[if_neg c] at h
     rw[List.lookup_cons,beq_self_eq_true] at h
     have e:q=k:=Option.some.inj h
     rcases hk with z | z
     ·exact .inr (e.trans z)
     ·exact .inl (e.trans z)
   rcases hq with rfl | rfl
   ·exact .inl List.mem_cons_self
   ·exact .inr List.mem_cons_self
  ·have hb:(x==n)=false:=by simpa using hx
   have rest:(r.map fun(n,k)=>if (k==NameKind.free&&env.scope.kind== .function&&env.kindOf n==some .cell) then(n,NameKind.cell) else(n,k)).lookup x=some k:=by
    by_cases c:(q==NameKind.free&&env.scope.kind== .function&&env.kindOf n==some .cell)=true
    ·simp only[if_pos c] at h
     rw[List.lookup_cons,hb] at h
     exact h
    ·simp only[if_neg c] at h
     rw[List.lookup_cons,hb] at h
     exact h
   exact(T1 (env:=env) rest hk).imp (List.mem_cons_of_mem _) (List.mem_cons_of_mem _)
structure BlockCells(X:Cx)(scope:Scope)(cl:List (Str×Addr))(sz:Nat)(h1:Heap):Prop where
 each:∀x c,cl.lookup x=some c→X.env.cells.lookup x=some c∨(sz<c∧h1.IsCell c none)
 free:∀n,(n,NameKind.free)∈scope.names→∃c,cl.lookup n=some c∧X.env.cells.lookup n=some c
 own:∀n,(n,NameKind.cell)∈scope.names→∃c,cl.lookup n=some c∧sz<c
 inj:∀x y c,cl.lookup x=some c→cl.lookup y=some c→sz<c→x=y
theorem T8{x:Str}:∀(names:List (Str×NameKind)) (n:Nat) (acc:List (Str×Addr)),(x,NameKind.cell)∉names→(cellsFrom n names acc).lookup x=acc.lookup x
 | [],_,_,_=>rfl
 |(y,k)::r,n,acc,h=>by
  have hr:(x,NameKind.cell)∉r:=fun z=>h (List.mem_cons_of_mem _ z)
  unfold cellsFrom
  split
  ·rename_i hk
   have hxy:(x==y)=false:=by
    rw[beq_eq_false_iff_ne]
    intro e
    apply h
    rw[e,←eq_of_beq hk]
    exact List.mem_cons_self
   rw[T8 r _ _ hr,List.lookup_cons,hxy]
  ·exact T8 r n acc hr
theorem Rx{x:Str}:∀(names:List (Str×NameKind)) (n:Nat) (acc:List (Str×Addr)),(x,NameKind.cell)∈names→∃c,(cellsFrom n names acc).lookup x=some c∧n≤c
 | [],_,_,h=>by cases h
 |(y,k)::r,n,acc,h=>by
  unfold cellsFrom
  by_cases hr:(x,NameKind.cell)∈r
  ·split
   ·obtain⟨c,e,l⟩:=Rx r (n+1) ((y,n)::acc) hr
    exact⟨c,e,by omega⟩
   ·exact Rx r n acc hr
  ·rcases List.mem_cons.mp h with e | e
   ·cases e
    rw[if_pos (by rfl),T8 r _ _ hr,List.lookup_cons,beq_self_eq_true]
    exact⟨n,rfl,Nat.le_refl _⟩
   ·exact absurd e hr
theorem T2:∀(names:List (Str×NameKind)) (n:Nat) (acc cl:List (Str×Addr)),∃own,cellsFrom n names (acc++cl)=own++cl∧cellsFrom n names acc=own
 | [],n,acc,cl=>⟨acc,rfl,rfl⟩
 |(y,k)::r,n,acc,cl=>by
  unfold cellsFrom
  split
  ·exact T2 r (n+1) ((y,n)::acc) cl
  ·exact T2 r n acc cl
theorem Vt{x:Str}{c:Addr}:∀{a b:List (Str×Addr)},(a++b).lookup x=some c→a.lookup x=some c∨b.lookup x=some c
 | [],b,h=> .inr h
 |(y,d)::a,b,h=>by
  rw[List.cons_append,List.lookup_cons] at h
  rw[List.lookup_cons]
  cases e:x==y with
  | true=>rw[e] at h;exact .inl h
  | false=>rw[e] at h;exact Vt h
theorem Pd{X:Cx}{pins:List (Addr×Obj)}{σ:L2.St}{H:Hp}{s:Shared}{scope:Scope}{cl:List (Str×Addr)}(nd:(scope.names.map (·.1)).Nodup)(I:Inv X pins σ H s)(o:Obj)
  (c1:∀x c,cl.lookup x=some c→X.env.cells.lookup x=some c) (c2:∀n,(n,NameKind.free)∈scope.names→∃c,cl.lookup n=some c):
  BlockCells X scope (cellsFrom (s.heap.objs.size+1) scope.names cl) s.heap.objs.size (pushCells (s.heap.push o) scope.names):=by
 obtain⟨own,e1,e2⟩:=T2 scope.names (s.heap.objs.size+1) [] cl
 rw[List.nil_append] at e1
 have ok:=cellsFrom_ok scope.names (s.heap.push o) (s.heap.objs.size+1) [] ⟨fun _ _ hm=>(nomatch hm),List.Pairwise.nil⟩ (by rw[Heap.size_push];exact Nat.le_refl _)
 rw[Heap.size_push,e2] at ok
 have old:∀x c,cl.lookup x=some c→c<s.heap.objs.size:=by
  intro x c e
  obtain⟨v,q⟩:=I.cell x c (c1 x c e)
  exact q.lt
 have one:∀{n:Str},(n,NameKind.free)∈scope.names→(n,NameKind.cell)∉scope.names:=by
  intro n h1 h2
  have key:∀(l:List (Str×NameKind)),(l.map (·.1)).Nodup→(n,NameKind.free)∈l→(n,NameKind.cell)∈l→False:=by
   intro l
   induction l with
   | nil=>intro _ h;cases h
   | cons y r ih=>
    intro hn a b
    rw[List.map_cons,List.nodup_cons] at hn
    rcases List.mem_cons.mp a with e1 | a2
    ·rcases List.mem_cons.mp b with e2 | b2
     ·rw[←e1] at e2;cases e2
     ·exact hn.1 (List.mem_map.mpr ⟨_,b2,by rw[←e1]⟩)
    ·rcases List.mem_cons.mp b with e2 | b2
     ·exact hn.1 (List.mem_map.mpr ⟨_,a2,by rw[←e2]⟩)
     ·exact ih hn.2 a2 b2
  exact key _ nd h1 h2
 refine⟨fun x c e=>?_,fun n hn=>?_,fun n hn=>?_,fun x y c hx hy hc=>?_⟩
 ·rw[e1] at e
  rcases Vt e with z | z
  ·obtain⟨a,b⟩:=ok.empty x c (mem_of_lookup z)
   exact .inr ⟨b,a⟩
  ·exact .inl (c1 x c z)
 ·obtain⟨c,hc⟩:=c2 n hn
  refine⟨c,?_,c1 n c hc⟩
  rw[T8 _ _ _ (one hn)]
  exact hc
 ·obtain⟨c,a,b⟩:=Rx scope.names (s.heap.objs.size+1) cl hn
  exact⟨c,a,b⟩
 ·rw[e1] at hx hy
  rcases Vt hx with z | z
  ·rcases Vt hy with z2 | z2
   ·exact name_of_addr ok.apart (mem_of_lookup z) (mem_of_lookup z2)
   ·exact absurd (old y c z2) (Nat.lt_asymm hc)
  ·exact absurd (old x c z) (Nat.lt_asymm hc)
theorem Qv{M:Model}{A:Around}{E:Value→Shared→Prop}{s:Shared}{scope:Scope}{globals:Addr}{cl:List (Str×Addr)}{qual:Str}{o:Env}{Q:Env→Shared→Prop}
  (hQ:Q {scope:=scope,locals:=s.heap.objs.size,globals:=globals,cells:=cellsFrom (s.heap.objs.size+1) scope.names cl,qual:=qual,func:=none,code:=o.code,frame:=o.frame,builtins:=o.builtins} {s with heap:=pushCells (s.heap.push {cls:= .type "dict",data:= .dict #[]}) scope.names}):
  wpAny M A (newFunctionEnv scope globals cl [] qual none .none (some o)) Q E s:=by
 simp only[newFunctionEnv,Option.isSome_some,if_true]
 refine wpAny_bind (wpAny_alloc ?_)
 refine wpAny_bind (wpAny_layCells _ (fun name kind cells=>by cases hkc:kind==NameKind.cell<;>simp[hkc]) _ _ _ _ ?_)
 rw[show({s with heap:=s.heap.push {cls:= .type "dict",data:= .dict #[]}}:Shared).heap.objs.size=s.heap.objs.size+1 from Heap.size_push ..]
 rw[List.forIn_nil]
 exact wpAny_bind (wpAny_pure (wpAny_pure hQ))
section
variable{X:Cx}{elt tg iter c:Expr}{scope:Scope}{pos:Pos}{N':List Str}{js:List (Option Nat)}{wi:TI}{g:TG}{te:TE}{tc:TT}
theorem Pa{N':List Str}{js:List (Option Nat)}{pins:List (Addr×Obj)}{σ:L2.St}{H:Hp}{s:Shared}{cl:List (Str×Addr)}{fp:List Addr}{h1:Heap}{tk:Nat}(S:CompScope X.env.scope X.N N' js scope)(I:Inv X pins σ H s)
  (bc:BlockCells X scope cl s.heap.objs.size h1) (hf:∀b∈fp,FpOk X pins H b) (hlt:∀b∈fp,b<s.heap.objs.size)
  {m:Str→Option Value} (hn:h1.Ns s.heap.objs.size m) (hk:∀b o,s.heap.get? b=some o→h1.get? b=some o):
  Inv (cxC X N' scope cl s.heap.objs.size fp pins s H) [] (Si js σ) H {s with heap:=h1,toks:=tk}:=by
 have ok:(cxC X N' scope cl s.heap.objs.size fp pins s H).Ok:=by
  refine⟨I.ok.mod,S.kind,I.ok.glob,I.ok.blt,Nat.le_refl _,fun x y c h1 h2=>?_,fun x hx=>?_,fun x c hx e=>?_,I.ok.hd,I.ok.frames,.inl rfl,fun b hb=>⟨Nat.ne_of_lt (hlt b hb),fun x c e=>?_⟩,
   I.bs,Nat.le_trans I.ok.bsz I.sz,fun b o e hb=>?_,fun b hb hx=>?_,I.stack,I.stkFree⟩
  ·rcases bc.each x c h1 with z | z
   ·rcases bc.each y c h2 with z2 | z2
    ·exact I.ok.inj x y c z z2
    ·exact bc.inj x y c h1 h2 z2.1
   ·exact bc.inj x y c h1 h2 z.1
  ·have hx':(relabel scope X.env).names.lookup x=some .cell∨(relabel scope X.env).names.lookup x=some .free:=hx
   have hm:(x,NameKind.free)∈scope.names∨(x,NameKind.cell)∈scope.names:=by
    rcases hx' with z | z
    ·exact T1 z (.inl rfl)
    ·exact T1 z (.inr rfl)
   rcases hm with z | z
   ·obtain⟨c,e,_⟩:=bc.free x z;exact⟨c,e⟩
   ·obtain⟨c,e,_⟩:=bc.own x z;exact⟨c,e⟩
  ·have hx':(scope.names.any fun y=>y.1==x&&y.2==NameKind.cell)=true:=hx
   rw[List.any_eq_true] at hx'
   obtain⟨⟨y,k⟩,hm,hy⟩:=hx'
   rw[Bool.and_eq_true] at hy
   have e1:y=x:=eq_of_beq hy.1
   have e2:k= .cell:=eq_of_beq hy.2
   subst e1 e2
   obtain⟨c',e',l⟩:=bc.own _ hm
   have:c'=c:=Option.some.inj (e'.symm.trans e)
   subst this
   exact Nat.le_of_lt l
  ·rcases bc.each x c e with z | z
   ·exact(hf b hb).2.2.2.2.1 x c z
   ·exact fun q=>absurd z.1 (Nat.lt_asymm (by rw[q];exact hlt b hb))
  ·obtain⟨_,_,_,f3,_⟩:=hf b hb
   rcases f3 with z | z
   ·exact I.ok.noex b o e z
   ·exact absurd (Nat.lt_of_lt_of_le (Heap.lt_size e) (Nat.le_trans I.ok.bsz z)) (Nat.lt_irrefl _)
  ·obtain⟨_,f1,f2,_⟩:=hf b hb
   rcases List.mem_cons.mp (I.stkSub b hx) with z | z
   ·exact f1 z
   ·exact f2 z
 refine⟨ok,rfl,I.bare,Un.kept hk,⟨m,hn,fun i x v e1 e2 e3=>?_⟩,fun x c e=>?_,I.hok.fresh (Nat.le_refl _),fun x c e=>(bc.each x c e).elim (fun z=>I.freeC x c z) (fun z=>I.hok.fresh (Nat.le_of_lt z.1)),fun p hp=>?_,I.hok.kept hk,?_⟩
 ·have e2':(Si js σ)[i]?=some (some v):=e2
  unfold Si at e2'
  rw[List.getElem?_map] at e2'
  cases q:js[i]? with
  | none=>rw[q] at e2';cases e2'
  | some o=>
   rw[q] at e2'
   cases o with
   | none=>cases e2'
   | some j=>
    have e4:(σ[j]?).join=some v:=Option.some.inj e2'
    obtain⟨hN,hm⟩:=S.cap i x j e1 q
    have hσ:σ[j]?=some (some v):=by
     cases z:σ[j]? with
     | none=>rw[z] at e4;cases e4
     | some o=>rw[z] at e4;exact congrArg some e4
    obtain⟨m0,hn0,hl⟩:=I.loc
    obtain⟨c,hc,hc0⟩:=bc.free x hm
    have hv:Vis X.env.scope x:=(S.free x hm).elim (fun z=> .inr (.inl z)) fun z=> .inr (.inr z)
    obtain⟨u,r,l⟩:=hl j x v hN hσ hv
    refine⟨u,r,.inr ⟨?_,c,hc,?_⟩⟩
    ·exact S.seen x hm
    ·rcases l with⟨kl,_⟩ | ⟨_,c',hc',cell⟩
     ·rcases S.free x hm with y | y<;>(have z:=y.symm.trans (show X.env.scope.names.lookup x=some .local from kl);cases z)
     ·rw[hc0] at hc'
      cases hc'
      obtain⟨o,ho,hd⟩:=cell
      exact⟨o,hk _ _ ho,hd⟩
 ·rcases bc.each x c e with z | z
  ·obtain⟨v,o,ho,hd⟩:=I.cell x c z
   exact⟨v,o,hk _ _ ho,hd⟩
  ·exact⟨none,z.2⟩
 ·have hp':p∈X.pn++pins:=(List.mem_append.mp hp).elim (fun z=>z) fun z=>absurd z (by simp)
  obtain⟨e,n,ne,nf,d⟩:=I.pin p hp'
  refine⟨hk _ _ e,n,Nat.ne_of_lt (Heap.lt_size e),fun z=>?_,d⟩
  rcases List.mem_cons.mp (I.stkSub p.1 z) with y | y
  ·exact ne y
  ·exact nf y
 ·show(Si js σ).length=N'.length
  unfold Si
  rw[List.length_map];exact S.len
end
section
variable{X:Cx}{elt tg iter c:Expr}{scope:Scope}{pos:Pos}{N':List Str}{js:List (Option Nat)}{wi:TI}{g:TG}{te:TE}{tc:TT}
def Z66(js:List (Option Nat))(wi:TI)(g:TG)(te:TE):TE:=fun σ H Q=>wi σ H fun J H1=>∀D,H1 D=none→∃W:Nat→Nat→L2.St→Hp→Prop,(∃m,W 0 m (Si js σ) (upd H1 D (.lst [])))∧
 ∀i m σc Hc,W i m σc Hc→(J.stop i Hc∧Q (.ref D) Hc)∨(J.go i Hc∧∀x H',J.yld i Hc x H'→g x σc H' fun σ2 H2=>te σ2 H2 fun y H4=>∃acc,H4 D=some (.lst acc)∧acc.length<sizeLine∧
  ∃m',m'<m∧W (i+1) m' σ2 (upd H4 D (.lst (acc++[y]))))
def Zi5(js:List (Option Nat))(wi:TI)(g:TG)(tc:TT)(te:TE):TE:=fun σ H Q=>wi σ H fun J H1=>∀D,H1 D=none→∃W:Nat→Nat→L2.St→Hp→Prop,(∃m,W 0 m (Si js σ) (upd H1 D (.lst [])))∧
 ∀i m σc Hc,W i m σc Hc→(J.stop i Hc∧Q (.ref D) Hc)∨(J.go i Hc∧∀x H',J.yld i Hc x H'→g x σc H' fun σ2 H2=>tc σ2 H2 fun b H3=>if b=true then te σ2 H3 fun y H4=>∃acc,H4 D=some (.lst acc)∧acc.length<sizeLine∧
  ∃m',m'<m∧W (i+1) m' σ2 (upd H4 D (.lst (acc++[y]))) else ∃m',m'<m∧W (i+1) m' σ2 H3)
theorem Q8{pins:List (Addr×Obj)}{σ:L2.St}{H2:Hp}{s2:Shared}{cl:List (Str×Addr)}{it:Addr}{fp:List Addr}{tn:Nat→Heap→Prop}{J:It}{QD:Addr→Hp→Prop}{R:Value→Addr→Result→Shared→Prop}{E:Value→Shared→Prop}
  (hc:X.calm=true) (S:CompScope X.env.scope X.N N' js scope) (c1:∀x c,cl.lookup x=some c→X.env.cells.lookup x=some c) (c2:∀n,(n,NameKind.free)∈scope.names→∃c,cl.lookup n=some c)
  (hg:∀cl C fp pins s H,PG (cxC X N' scope cl C fp pins s H) tg g) (he:∀cl C fp pins s H,PE (cxC X N' scope cl C fp pins s H) elt te)
  (I2:Inv X pins σ H2 s2) (T:Turn X.prog X.w X.K tg J fp it tn) (st2:tn 0 s2.heap) (f2:∀b∈fp,FpOk X pins H2 b)
  (q:∀D,H2 D=none→∃W:Nat→Nat→L2.St→Hp→Prop,(∃m,W 0 m (Si js σ) (upd H2 D (.lst [])))∧
   ∀i m σc Hc,W i m σc Hc→(J.stop i Hc∧QD D Hc)∨(J.go i Hc∧∀x H',J.yld i Hc x H'→g x σc H' fun σ2 H2=>te σ2 H2 fun y H4=>∃acc,H4 D=some (.lst acc)∧acc.length<sizeLine∧
    ∃m',m'<m∧W (i+1) m' σ2 (upd H4 D (.lst (acc++[y])))))
  (back:∀(D C:Addr) (Hc:Hp) (s4:Shared),(∃m,s4.heap.Ns C m)→Inv X pins σ Hc s4→Hc C=none→C≠X.env.locals→X.s₀.heap.objs.size≤C→(∀x c,X.env.cells.lookup x=some c→c≠C)→(∀p∈X.pn++pins,p.1≠C)→QD D Hc→R (.ref D) C (.ok .next) s4):
  wpAny (model X.prog X.w) X.A (newList []) (fun acc s3=>wpAny (model X.prog X.w) X.A (newFunctionEnv scope X.env.globals cl [] X.env.qual none .none (some X.env)) (fun cenv s4=>
   codeAny (model X.prog X.w) X.A (.compStart (.ListComp elt [⟨tg,iter,[],0⟩] scope pos) 0 (.ref it) acc {cenv with scope:=relabel scope X.env}) (R acc cenv.locals) s4) E s3) E s2:=by
 refine wpAny_newObj_type (Qv ?_)
 dsimp only
 have I3:Inv X pins σ (upd H2 s2.heap.objs.size (.lst [])) {s2 with heap:=s2.heap.push {cls:= .type "list",data:= .seq ([]:List Value).toArray}}:=I2.lnew (its:=[]) (t':=s2.toks) .nil (Nat.zero_le _)
 obtain⟨W,⟨m0,w0⟩,turn⟩:=q s2.heap.objs.size I2.fresh
 have hob:=T.obj 0 _ st2
 have f3:∀b∈fp,FpOk X pins (upd H2 s2.heap.objs.size (.lst [])) b:=fun b hb=>by
  obtain⟨o,e,_⟩:=hob b hb
  exact⟨by rw[Zs (Nat.ne_of_lt (Heap.lt_size e))];exact(f2 b hb).1,(f2 b hb).2⟩
 generalize hS3:(s2.heap.push {cls:= .type "list",data:= .seq ([]:List Value).toArray}:Heap)=h3 at *
 have k23:∀b o,s2.heap.get? b=some o→h3.get? b=some o:=fun b o e=>by rw[←hS3];exact Heap.get?_push_of_some _ e
 have hlt:∀b∈fp,b<h3.objs.size:=fun b hb=>by
  obtain⟨o,e,_⟩:=hob b hb
  exact Heap.lt_size (k23 b o e)
 have bc:=Pd S.nd I3 {cls:= .type "dict",data:= .dict #[]} c1 c2
 have hns:(pushCells (h3.push {cls:= .type "dict",data:= .dict #[]}) scope.names).Ns h3.objs.size (fun _=>none):=(Heap.Ns.new h3 (.type "dict")).keeps (pushCells_keeps _ _)
 have k31:∀b o,h3.get? b=some o→(pushCells (h3.push {cls:= .type "dict",data:= .dict #[]}) scope.names).get? b=some o:=fun b o e=>pushCells_keeps _ _ b o (Heap.get?_push_of_some _ e)
 dsimp only at bc
 generalize cellsFrom (h3.objs.size+1) scope.names cl=cl' at bc ⊢
 generalize pushCells (h3.push {cls:= .type "dict",data:= .dict #[]}) scope.names=h1 at bc hns k31 ⊢
 have I4:=Pa (tk:=s2.toks) S I3 bc f3 hlt hns k31
 have st4:tn 0 h1:=T.keep 0 _ h1 st2 fun b hb o e=>k31 b o (k23 b o e)
 have nofs:∀b∈fp,b∉(cxC X N' scope cl' h3.objs.size fp pins {s2 with heap:=h3} (upd H2 s2.heap.objs.size (.lst []))).fs:=I4.ok.exfs
 have stat:∀{H':Hp},(∀b∈fp,H' b=none)→∀b∈fp,FpOk (cxC X N' scope cl' h3.objs.size fp pins {s2 with heap:=h3} (upd H2 s2.heap.objs.size (.lst []))) [] H' b:=fun{H'} hn b hb=>
  ⟨hn b hb,Nat.ne_of_lt (hlt b hb),nofs b hb,.inl hb,fun x c e=>(bc.each x c e).elim (fun z=>(f3 b hb).2.2.2.2.1 x c z) (fun z q=>absurd z.1 (Nat.lt_asymm (by rw[q];exact hlt b hb))),fun p hp=>(f3 b hb).2.2.2.2.2 p (by simpa[cxC] using hp)⟩
 have loop:codeAny (model X.prog X.w) X.A (.compLoop (.ListComp elt [⟨tg,iter,[],0⟩] scope pos) 0 (.ref it) (.ref s2.heap.objs.size) (compEnvC scope cl' h3.objs.size X.env))
   (R (.ref s2.heap.objs.size) h3.objs.size) {s2 with heap:=h1,toks:=s2.toks}:=by
  refine C5 (fun n s'=>∃i σc Hc,Inv (cxC X N' scope cl' h3.objs.size fp pins {s2 with heap:=h3} (upd H2 s2.heap.objs.size (.lst []))) [] σc Hc s'∧tn i s'.heap∧(∀b∈fp,Hc b=none)∧W i n σc Hc) ?_ m0
   ⟨0,_,_,I4,st4,fun b hb=>(f3 b hb).1,w0⟩
  rintro n z ⟨i,σc,Hc,Iz,stz,frz,wz⟩
  rcases turn i n σc Hc wz with⟨stop,qd⟩ | ⟨go,step⟩
  ·refine thn (T.done (cxC X N' scope cl' h3.objs.size fp pins {s2 with heap:=h3} (upd H2 s2.heap.objs.size (.lst []))) rfl rfl rfl hc i [] z σc Hc noE Iz (stat frz) stz stop) fun r s4 zz42=>?_
   obtain⟨hr,I5⟩:=zz42
   subst hr
   have J5:Inv X pins σ Hc s4:=I3.call' (s':=s4) I5.os I5.base I5.hok I5.bare fun b hb=>⟨(f3 b hb).2.2.2.1,(f3 b hb).2.1,(f3 b hb).2.2.2.2.1,(f3 b hb).2.2.2.2.2⟩
   obtain⟨m,hm,_⟩:=I5.loc
   refine back _ _ Hc s4 ⟨m,hm⟩ J5 I5.free (Nat.ne_of_gt I3.lt) (Nat.le_trans I3.ok.above (Nat.le_of_lt I3.lt)) (fun x c e z=>?_) (fun p hp z=>?_) qd
   ·obtain⟨v,q⟩:=I3.cell x c e
    exact absurd q.lt (by rw[z];exact Nat.lt_irrefl _)
   ·exact absurd (Heap.lt_size (I3.pin p hp).1) (by rw[z];exact Nat.lt_irrefl _)
  ·refine thn (T.item (cxC X N' scope cl' h3.objs.size fp pins {s2 with heap:=h3} (upd H2 s2.heap.objs.size (.lst []))) rfl rfl rfl hc i [] z σc Hc noE Iz (stat frz) stz go) fun r s4 zz43=>?_
   obtain⟨u,hr,h4⟩:=zz43
   subst hr
   refine thn h4 fun _ s5 zz44=>?_
   obtain⟨x,H5,I5,r5,y5,st5,fr5⟩:=zz44
   have I5':=I5.pinned (stat fr5) (T.obj _ _ st5)
   refine thn (hg _ _ _ _ _ _ _ s5 σc H5 x u _ I5' r5 (step x H5 y5)) fun _ s6 zz45=>?_
   obtain⟨σ6,H6,I6,q6⟩:=zz45
   refine thn (he _ _ _ _ _ _ _ s6 σ6 H6 _ I6 q6) fun v s7 zz46=>?_
   obtain⟨y,H7,I7,r7,acc,hD,hlen,m',hm,w7⟩:=zz46
   refine thn (Rs _ s7 σ6 H7 (.ref s2.heap.objs.size) [y] (.ref s2.heap.objs.size) [v] (fun _ H8=>H8=upd H7 s2.heap.objs.size (.lst (acc++[y]))) I7 rfl (.cons r7 .nil) ⟨_,acc,y,rfl,rfl,hD,hlen,rfl⟩) fun _ s8 zz47=>?_
   obtain⟨_,H8,I8,_,e8⟩:=zz47
   subst e8
   refine⟨m',hm,i+1,σ6,_,I8.unpinned,T.keep _ _ _ st5 fun b hb o e=>(I8.pin (b,o) (List.mem_append_right _ (List.mem_append_right _ (Yx hb e)))).1,fun b hb=>?_,w7⟩
   obtain⟨o,e,d⟩:=T.obj _ _ st5 b hb
   exact(I8.pin (b,o) (List.mem_append_right _ (List.mem_append_right _ (Yx hb e)))).2.1
 exact codeAny_compStart_list loop (T.self _ 0 _ _ _ st4 loop)
theorem Zf6(hc:X.calm=true)(ho:Ta X.env.scope X.N N' js scope=true)(hi:PI X tg iter wi)(hg:∀cl C fp pins s H,PG (cxC X N' scope cl C fp pins s H) tg g)(he:∀cl C fp pins s H,PE (cxC X N' scope cl C fp pins s H) elt te)
  (hs:∀x,foldedSetIterable iter X.env x=pure x:=by intro _;rfl):PE X (.ListComp elt [⟨tg,iter,[],0⟩] scope pos) (Z66 js wi g te):=by
 intro pins s σ H Q I h
 have S:=CompScope.of ho
 obtain⟨cl,hcl,c1,c2⟩:=Vr (scope:=scope) (env:=X.env) fun n hn=>I.ok.has n (S.free n hn)
 rw[eval_ListComp]
 refine wpAny_comprehension_free (use:=none) rfl hs hcl S.kind S.loc (thn (hi pins s σ H _ I h) fun v s1 h1=>thn h1 fun itv s2 h2=>?_)
 obtain⟨it,fp,tn,J,H2,e,I2,T,st2,f2,q2⟩:=h2
 subst e
 refine Q8 (QD:=fun D Hc=>Q (.ref D) Hc) (R:=fun acc C=>compPost (model X.prog X.w) X.A X.xe none (EP X pins σ Q) acc C) hc S c1 c2 hg he I2 T st2 f2 q2 ?_
 rintro D C Hc s4 ⟨m,hm⟩ J4 fC nL sC cC pC qd
 refine⟨m,hm,fun h' hs'=>⟨.ref D,Hc,?_,rfl,qd⟩⟩
 exact J4.turned (t':=s4.toks) (fun b o hb e=>(hs'.2 b hb).trans e) fC nL (.inr sC) cC pC
def Zw3(i:Nat)(js:List (Option Nat))(wi:TI)(g:TG)(te:TE):TS:=fun D σ H=>Z66 js wi g te σ H fun v H1=>D.nx (σ.set i (some v)) H1
theorem Z98{i:Nat}{x:Str}{px spos:Pos}(hc:X.calm=true)(ho:Ta X.env.scope X.N N' js scope=true)(hN:X.N.Nodup)(hx:X.N[i]?=some x)(hl:X.env.scope.names.lookup x=some .local)(hi:PI X tg iter wi)
  (hg:∀cl C fp pins s H,PG (cxC X N' scope cl C fp pins s H) tg g) (he:∀cl C fp pins s H,PE (cxC X N' scope cl C fp pins s H) elt te)
  (hsw:swapsWith (.ListComp elt [⟨tg,iter,[],0⟩] scope pos) (some (.Name x px)) spos.line X.env=pure true)
  (hs:∀x,foldedSetIterable iter X.env x=pure x:=by intro _;rfl):PS X (.Assign [.Name x px] (.ListComp elt [⟨tg,iter,[],0⟩] scope pos) spos) (Zw3 i js wi g te):=by
 intro pins s σ H D I h
 have S:=CompScope.of ho
 obtain⟨cl,hcl,c1,c2⟩:=Vr (scope:=scope) (env:=X.env) fun n hn=>I.ok.has n (S.free n hn)
 rw[exec_Assign_Name_used _ _ _ _ hsw]
 refine wpAny_bind (wpAny_standAt (wpAny_bind ?_))
 show wpAny _ _ (do let _ ←comprehension (.ListComp elt [⟨tg,iter,[],0⟩] scope pos) scope X.env _ (newList []) false (eval iter X.env) (some (assign (.Name x px) X.env))) _ _ s
 refine wpAny_bind (wpAny_mono (wpAny_comprehension_free (use:=some (assign (.Name x px) X.env)) (Q:=fun _ s'=>SP X pins D .next s') rfl hs hcl S.kind S.loc (thn (hi pins s σ H _ I h) fun v s1 h1=>thn h1 fun itv s2 h2=>?_)) (fun _ s' hq=>wpAny_pure (wpAny_pure hq)) fun _ _ e=>e)
 obtain⟨it,fp,tn,J,H2,e,I2,T,st2,f2,q2⟩:=h2
 subst e
 refine Q8 (QD:=fun E' Hc=>D.nx (σ.set i (some (.ref E'))) Hc) (R:=fun acc C=>compPost (model X.prog X.w) X.A X.xe (some (assign (.Name x px) X.env)) (fun _ s'=>SP X pins D .next s') acc C) hc S c1 c2 hg he I2 T st2 f2 q2 ?_
 rintro E' C Hc s4 ⟨m,hm⟩ J4 fC nL sC cC pC qd
 show wpAny _ _ (assign (.Name x px) X.env (.ref E')) _ _ s4
 refine wpAny_assign_Name (Q9 J4 hN hx (.inl hl) (v:= .ref E') rfl (fun s5 J5 zz48=>?_) (.inr hl))
 obtain⟨a,sb,ha⟩:=zz48
 have hCa:C≠a:=by
  rcases ha with z | z
  ·rw[z];exact nL
  ·exact(cC x a z).symm
 refine⟨m,hm.sameBut sb hCa,fun h' hs'=>⟨σ.set i (some (.ref E')),Hc,?_,qd⟩⟩
 exact J5.turned (t':=s5.toks) (fun b o hb e=>(hs'.2 b hb).trans e) fC nL (.inr sC) cC pC
theorem Rw{pins:List (Addr×Obj)}{σ:L2.St}{H2:Hp}{s2:Shared}{cl:List (Str×Addr)}{it:Addr}{fp:List Addr}{tn:Nat→Heap→Prop}{J:It}{QD:Addr→Hp→Prop}{R:Value→Addr→Result→Shared→Prop}{E:Value→Shared→Prop}
  (hc:X.calm=true) (S:CompScope X.env.scope X.N N' js scope) (c1:∀x c,cl.lookup x=some c→X.env.cells.lookup x=some c) (c2:∀n,(n,NameKind.free)∈scope.names→∃c,cl.lookup n=some c)
  (hg:∀cl C fp pins s H,PG (cxC X N' scope cl C fp pins s H) tg g) (hq:∀cl C fp pins s H,PT (cxC X N' scope cl C fp pins s H) c tc) (he:∀cl C fp pins s H,PE (cxC X N' scope cl C fp pins s H) elt te)
  (I2:Inv X pins σ H2 s2) (T:Turn X.prog X.w X.K tg J fp it tn) (st2:tn 0 s2.heap) (f2:∀b∈fp,FpOk X pins H2 b)
  (q:∀D,H2 D=none→∃W:Nat→Nat→L2.St→Hp→Prop,(∃m,W 0 m (Si js σ) (upd H2 D (.lst [])))∧
   ∀i m σc Hc,W i m σc Hc→(J.stop i Hc∧QD D Hc)∨(J.go i Hc∧∀x H',J.yld i Hc x H'→g x σc H' fun σ2 H2=>tc σ2 H2 fun b H3=>if b=true then te σ2 H3 fun y H4=>∃acc,H4 D=some (.lst acc)∧acc.length<sizeLine∧
    ∃m',m'<m∧W (i+1) m' σ2 (upd H4 D (.lst (acc++[y]))) else ∃m',m'<m∧W (i+1) m' σ2 H3))
  (back:∀(D C:Addr) (Hc:Hp) (s4:Shared),(∃m,s4.heap.Ns C m)→Inv X pins σ Hc s4→Hc C=none→C≠X.env.locals→X.s₀.heap.objs.size≤C→(∀x c,X.env.cells.lookup x=some c→c≠C)→(∀p∈X.pn++pins,p.1≠C)→QD D Hc→R (.ref D) C (.ok .next) s4):
  wpAny (model X.prog X.w) X.A (newList []) (fun acc s3=>wpAny (model X.prog X.w) X.A (newFunctionEnv scope X.env.globals cl [] X.env.qual none .none (some X.env)) (fun cenv s4=>
   codeAny (model X.prog X.w) X.A (.compStart (.ListComp elt [⟨tg,iter,[c],0⟩] scope pos) 0 (.ref it) acc {cenv with scope:=relabel scope X.env}) (R acc cenv.locals) s4) E s3) E s2:=by
 refine wpAny_newObj_type (Qv ?_)
 dsimp only
 have I3:Inv X pins σ (upd H2 s2.heap.objs.size (.lst [])) {s2 with heap:=s2.heap.push {cls:= .type "list",data:= .seq ([]:List Value).toArray}}:=I2.lnew (its:=[]) (t':=s2.toks) .nil (Nat.zero_le _)
 obtain⟨W,⟨m0,w0⟩,turn⟩:=q s2.heap.objs.size I2.fresh
 have hob:=T.obj 0 _ st2
 have f3:∀b∈fp,FpOk X pins (upd H2 s2.heap.objs.size (.lst [])) b:=fun b hb=>by
  obtain⟨o,e,_⟩:=hob b hb
  exact⟨by rw[Zs (Nat.ne_of_lt (Heap.lt_size e))];exact(f2 b hb).1,(f2 b hb).2⟩
 generalize hS3:(s2.heap.push {cls:= .type "list",data:= .seq ([]:List Value).toArray}:Heap)=h3 at *
 have k23:∀b o,s2.heap.get? b=some o→h3.get? b=some o:=fun b o e=>by rw[←hS3];exact Heap.get?_push_of_some _ e
 have hlt:∀b∈fp,b<h3.objs.size:=fun b hb=>by
  obtain⟨o,e,_⟩:=hob b hb
  exact Heap.lt_size (k23 b o e)
 have bc:=Pd S.nd I3 {cls:= .type "dict",data:= .dict #[]} c1 c2
 have hns:(pushCells (h3.push {cls:= .type "dict",data:= .dict #[]}) scope.names).Ns h3.objs.size (fun _=>none):=(Heap.Ns.new h3 (.type "dict")).keeps (pushCells_keeps _ _)
 have k31:∀b o,h3.get? b=some o→(pushCells (h3.push {cls:= .type "dict",data:= .dict #[]}) scope.names).get? b=some o:=fun b o e=>pushCells_keeps _ _ b o (Heap.get?_push_of_some _ e)
 dsimp only at bc
 generalize cellsFrom (h3.objs.size+1) scope.names cl=cl' at bc ⊢
 generalize pushCells (h3.push {cls:= .type "dict",data:= .dict #[]}) scope.names=h1 at bc hns k31 ⊢
 have I4:=Pa (tk:=s2.toks) S I3 bc f3 hlt hns k31
 have st4:tn 0 h1:=T.keep 0 _ h1 st2 fun b hb o e=>k31 b o (k23 b o e)
 have nofs:∀b∈fp,b∉(cxC X N' scope cl' h3.objs.size fp pins {s2 with heap:=h3} (upd H2 s2.heap.objs.size (.lst []))).fs:=I4.ok.exfs
 have stat:∀{H':Hp},(∀b∈fp,H' b=none)→∀b∈fp,FpOk (cxC X N' scope cl' h3.objs.size fp pins {s2 with heap:=h3} (upd H2 s2.heap.objs.size (.lst []))) [] H' b:=fun{H'} hn b hb=>
  ⟨hn b hb,Nat.ne_of_lt (hlt b hb),nofs b hb,.inl hb,fun x c e=>(bc.each x c e).elim (fun z=>(f3 b hb).2.2.2.2.1 x c z) (fun z q=>absurd z.1 (Nat.lt_asymm (by rw[q];exact hlt b hb))),fun p hp=>(f3 b hb).2.2.2.2.2 p (by simpa[cxC] using hp)⟩
 have loop:codeAny (model X.prog X.w) X.A (.compLoop (.ListComp elt [⟨tg,iter,[c],0⟩] scope pos) 0 (.ref it) (.ref s2.heap.objs.size) (compEnvC scope cl' h3.objs.size X.env))
   (R (.ref s2.heap.objs.size) h3.objs.size) {s2 with heap:=h1,toks:=s2.toks}:=by
  refine C9 (fun n s'=>∃i σc Hc,Inv (cxC X N' scope cl' h3.objs.size fp pins {s2 with heap:=h3} (upd H2 s2.heap.objs.size (.lst []))) [] σc Hc s'∧tn i s'.heap∧(∀b∈fp,Hc b=none)∧W i n σc Hc) ?_ m0
   ⟨0,_,_,I4,st4,fun b hb=>(f3 b hb).1,w0⟩
  rintro n z ⟨i,σc,Hc,Iz,stz,frz,wz⟩
  rcases turn i n σc Hc wz with⟨stop,qd⟩ | ⟨go,step⟩
  ·refine thn (T.done (cxC X N' scope cl' h3.objs.size fp pins {s2 with heap:=h3} (upd H2 s2.heap.objs.size (.lst []))) rfl rfl rfl hc i [] z σc Hc noE Iz (stat frz) stz stop) fun r s4 zz49=>?_
   obtain⟨hr,I5⟩:=zz49
   subst hr
   have J5:Inv X pins σ Hc s4:=I3.call' (s':=s4) I5.os I5.base I5.hok I5.bare fun b hb=>⟨(f3 b hb).2.2.2.1,(f3 b hb).2.1,(f3 b hb).2.2.2.2.1,(f3 b hb).2.2.2.2.2⟩
   obtain⟨m,hm,_⟩:=I5.loc
   refine back _ _ Hc s4 ⟨m,hm⟩ J5 I5.free (Nat.ne_of_gt I3.lt) (Nat.le_trans I3.ok.above (Nat.le_of_lt I3.lt)) (fun x c e z=>?_) (fun p hp z=>?_) qd
   ·obtain⟨v,q⟩:=I3.cell x c e
    exact absurd q.lt (by rw[z];exact Nat.lt_irrefl _)
   ·exact absurd (Heap.lt_size (I3.pin p hp).1) (by rw[z];exact Nat.lt_irrefl _)
  ·refine thn (T.item (cxC X N' scope cl' h3.objs.size fp pins {s2 with heap:=h3} (upd H2 s2.heap.objs.size (.lst []))) rfl rfl rfl hc i [] z σc Hc noE Iz (stat frz) stz go) fun r s4 zz50=>?_
   obtain⟨u,hr,h4⟩:=zz50
   subst hr
   refine thn h4 fun _ s5 zz51=>?_
   obtain⟨x,H5,I5,r5,y5,st5,fr5⟩:=zz51
   have I5':=I5.pinned (stat fr5) (T.obj _ _ st5)
   refine thn (hg _ _ _ _ _ _ _ s5 σc H5 x u _ I5' r5 (step x H5 y5)) fun _ s6 zz52=>?_
   obtain⟨σ6,H6,I6,q6⟩:=zz52
   refine thn (hq _ _ _ _ _ _ _ s6 σ6 H6 _ I6 q6) fun ok s6' zz53=>?_
   obtain⟨H6',I6',q6'⟩:=zz53
   cases ok with
   | false=>
    rw[if_neg Bool.false_ne_true] at q6' ⊢
    obtain⟨m',hm,w7⟩:=q6'
    refine⟨m',hm,i+1,σ6,_,I6'.unpinned,T.keep _ _ _ st5 fun b hb o e=>(I6'.pin (b,o) (List.mem_append_right _ (List.mem_append_right _ (Yx hb e)))).1,fun b hb=>?_,w7⟩
    obtain⟨o,e,d⟩:=T.obj _ _ st5 b hb
    exact(I6'.pin (b,o) (List.mem_append_right _ (List.mem_append_right _ (Yx hb e)))).2.1
   | true=>
   rw[if_pos rfl] at q6' ⊢
   refine thn (he _ _ _ _ _ _ _ s6' σ6 H6' _ I6' q6') fun v s7 zz54=>?_
   obtain⟨y,H7,I7,r7,acc,hD,hlen,m',hm,w7⟩:=zz54
   refine thn (Rs _ s7 σ6 H7 (.ref s2.heap.objs.size) [y] (.ref s2.heap.objs.size) [v] (fun _ H8=>H8=upd H7 s2.heap.objs.size (.lst (acc++[y]))) I7 rfl (.cons r7 .nil) ⟨_,acc,y,rfl,rfl,hD,hlen,rfl⟩) fun _ s8 zz55=>?_
   obtain⟨_,H8,I8,_,e8⟩:=zz55
   subst e8
   refine⟨m',hm,i+1,σ6,_,I8.unpinned,T.keep _ _ _ st5 fun b hb o e=>(I8.pin (b,o) (List.mem_append_right _ (List.mem_append_right _ (Yx hb e)))).1,fun b hb=>?_,w7⟩
   obtain⟨o,e,d⟩:=T.obj _ _ st5 b hb
   exact(I8.pin (b,o) (List.mem_append_right _ (List.mem_append_right _ (Yx hb e)))).2.1
 exact codeAny_compStart_list loop (T.self _ 0 _ _ _ st4 loop)
theorem Zg5(hc:X.calm=true)(ho:Ta X.env.scope X.N N' js scope=true)(hi:PI X tg iter wi)(hg:∀cl C fp pins s H,PG (cxC X N' scope cl C fp pins s H) tg g)(hq:∀cl C fp pins s H,PT (cxC X N' scope cl C fp pins s H) c tc)(he:∀cl C fp pins s H,PE (cxC X N' scope cl C fp pins s H) elt te)
  (hs:∀x,foldedSetIterable iter X.env x=pure x:=by intro _;rfl):PE X (.ListComp elt [⟨tg,iter,[c],0⟩] scope pos) (Zi5 js wi g tc te):=by
 intro pins s σ H Q I h
 have S:=CompScope.of ho
 obtain⟨cl,hcl,c1,c2⟩:=Vr (scope:=scope) (env:=X.env) fun n hn=>I.ok.has n (S.free n hn)
 rw[eval_ListComp]
 refine wpAny_comprehension_free (use:=none) rfl hs hcl S.kind S.loc (thn (hi pins s σ H _ I h) fun v s1 h1=>thn h1 fun itv s2 h2=>?_)
 obtain⟨it,fp,tn,J,H2,e,I2,T,st2,f2,q2⟩:=h2
 subst e
 refine Rw (QD:=fun D Hc=>Q (.ref D) Hc) (R:=fun acc C=>compPost (model X.prog X.w) X.A X.xe none (EP X pins σ Q) acc C) hc S c1 c2 hg hq he I2 T st2 f2 q2 ?_
 rintro D C Hc s4 ⟨m,hm⟩ J4 fC nL sC cC pC qd
 refine⟨m,hm,fun h' hs'=>⟨.ref D,Hc,?_,rfl,qd⟩⟩
 exact J4.turned (t':=s4.toks) (fun b o hb e=>(hs'.2 b hb).trans e) fC nL (.inr sC) cC pC
def Zv8(i:Nat)(js:List (Option Nat))(wi:TI)(g:TG)(tc:TT)(te:TE):TS:=fun D σ H=>Zi5 js wi g tc te σ H fun v H1=>D.nx (σ.set i (some v)) H1
theorem Zg0{i:Nat}{x:Str}{px spos:Pos}(hc:X.calm=true)(ho:Ta X.env.scope X.N N' js scope=true)(hN:X.N.Nodup)(hx:X.N[i]?=some x)(hl:X.env.scope.names.lookup x=some .local)(hi:PI X tg iter wi)
  (hg:∀cl C fp pins s H,PG (cxC X N' scope cl C fp pins s H) tg g) (hq:∀cl C fp pins s H,PT (cxC X N' scope cl C fp pins s H) c tc) (he:∀cl C fp pins s H,PE (cxC X N' scope cl C fp pins s H) elt te)
  (hsw:swapsWith (.ListComp elt [⟨tg,iter,[c],0⟩] scope pos) (some (.Name x px)) spos.line X.env=pure true)
  (hs:∀x,foldedSetIterable iter X.env x=pure x:=by intro _;rfl):PS X (.Assign [.Name x px] (.ListComp elt [⟨tg,iter,[c],0⟩] scope pos) spos) (Zv8 i js wi g tc te):=by
 intro pins s σ H D I h
 have S:=CompScope.of ho
 obtain⟨cl,hcl,c1,c2⟩:=Vr (scope:=scope) (env:=X.env) fun n hn=>I.ok.has n (S.free n hn)
 rw[exec_Assign_Name_used _ _ _ _ hsw]
 refine wpAny_bind (wpAny_standAt (wpAny_bind ?_))
 show wpAny _ _ (do let _ ←comprehension (.ListComp elt [⟨tg,iter,[c],0⟩] scope pos) scope X.env _ (newList []) false (eval iter X.env) (some (assign (.Name x px) X.env))) _ _ s
 refine wpAny_bind (wpAny_mono (wpAny_comprehension_free (use:=some (assign (.Name x px) X.env)) (Q:=fun _ s'=>SP X pins D .next s') rfl hs hcl S.kind S.loc (thn (hi pins s σ H _ I h) fun v s1 h1=>thn h1 fun itv s2 h2=>?_)) (fun _ s' hq=>wpAny_pure (wpAny_pure hq)) fun _ _ e=>e)
 obtain⟨it,fp,tn,J,H2,e,I2,T,st2,f2,q2⟩:=h2
 subst e
 refine Rw (QD:=fun E' Hc=>D.nx (σ.set i (some (.ref E'))) Hc) (R:=fun acc C=>compPost (model X.prog X.w) X.A X.xe (some (assign (.Name x px) X.env)) (fun _ s'=>SP X pins D .next s') acc C) hc S c1 c2 hg hq he I2 T st2 f2 q2 ?_
 rintro E' C Hc s4 ⟨m,hm⟩ J4 fC nL sC cC pC qd
 show wpAny _ _ (assign (.Name x px) X.env (.ref E')) _ _ s4
 refine wpAny_assign_Name (Q9 J4 hN hx (.inl hl) (v:= .ref E') rfl (fun s5 J5 zz56=>?_) (.inr hl))
 obtain⟨a,sb,ha⟩:=zz56
 have hCa:C≠a:=by
  rcases ha with z | z
  ·rw[z];exact nL
  ·exact(cC x a z).symm
 refine⟨m,hm.sameBut sb hCa,fun h' hs'=>⟨σ.set i (some (.ref E')),Hc,?_,qd⟩⟩
 exact J5.turned (t':=s5.toks) (fun b o hb e=>(hs'.2 b hb).trans e) fC nL (.inr sC) cC pC
end
end L3
namespace L3
open PySem
def ExAt(h:Heap)(e:Addr)(cls:Value)(dd:Option Addr)(tb:Value):Prop:=∃oe vs,h.get? e=some oe∧(oe.cls=cls∧oe.dict=dd)∧oe.data= .fields vs∧vs[1]?=some tb
def TbAt(h:Heap)(T:Addr)(fl:Value):Prop:=∃oT ts,h.get? T=some oT∧oT.data= .fields ts∧ts[3]?=some fl
theorem ExAt.at{h h':Heap}{e:Addr}{cls:Value}{dd:Option Addr}{tb:Value}(x:ExAt h e cls dd tb)(k:∀o,h.get? e=some o→h'.get? e=some o):ExAt h' e cls dd tb:=
 let ⟨oe,vs,he,r⟩:=x;⟨oe,vs,k _ he,r⟩
theorem TbAt.at{h h':Heap}{T:Addr}{fl:Value}(x:TbAt h T fl)(k:∀o,h.get? T=some o→h'.get? T=some o):TbAt h' T fl:=
 let ⟨o,ts,he,r⟩:=x;⟨o,ts,k _ he,r⟩
structure Flown(fs xs:List Addr)(h h':Heap):Prop where
 keep:∀b o,h.get? b=some o→b∉fs→b∉xs→h'.get? b=some o
 slot:∀b o,h.get? b=some o→b∈fs→b∉xs→∃sl,h'.get? b=some {o with slots:=sl}
 there:∀b o,h.get? b=some o→∃o',h'.get? b=some o'
theorem Flown.refl(fs xs:List Addr)(h:Heap):Flown fs xs h h:=⟨fun _ _ e _ _=>e,fun _ o e _ _=>⟨o.slots,e⟩,fun _ o e=>⟨o,e⟩⟩
theorem Flown.trans{fs xs ys:List Addr}{h h1 h2:Heap}(a:Flown fs xs h h1)(b:Flown fs ys h1 h2)(hy:∀z∈ys,z∈xs∨h.get? z=none):Flown fs xs h h2 where
 keep:=fun c o e hf hx=>b.keep c o (a.keep c o e hf hx) hf fun z=>(hy c z).elim hx fun q=>by rw[q] at e;cases e
 slot:=fun c o e hf hx=>by
  obtain⟨sl,e1⟩:=a.slot c o e hf hx
  obtain⟨sl',e2⟩:=b.slot c _ e1 hf fun z=>(hy c z).elim hx fun q=>by rw[q] at e;cases e
  exact⟨sl',e2⟩
 there:=fun c o e=>by obtain⟨o1,e1⟩:=a.there c o e;exact b.there c o1 e1
end L3
namespace L3
open PySem PySem.W
section
variable{prog:Program}{w:World}{A:Around}{h:Heap}{g:Array GenState}{d:Drawn}{t:Nat}{os:OsState}
variable{nm q:Str}{C N f:Addr}{bs bm:List Value}{hdct:Bool}{sn:List Str}{sub:List Value}{ab:Bool}{col:Option Bool}{dd:Option Addr}{k0 k1 k2 k3 k5:Option Value}{Bn newId inN:String}{bmN:List Value}
structure ExcCls(h:Heap)(C:Addr)(nm q:Str)(N:Addr)(bs bm:List Value)(hdct:Bool)(sn:List Str)(sub:List Value)(ab:Bool)(col:Option Bool)(dd:Option Addr)(k0 k1 k2 k3 k5:Option Value)(Bn newId:String):Prop where
 obj:h.get? C=some (excClassObj nm q C N bs bm hdct sn sub ab col dd k0 k1 k2 k3 k5 newId)
 hB:(Value.ref C::bm).contains (.type Bn)=true
 hA:(Value.ref C::bm).contains (.type "AttributeError")=false
 hN:(Value.ref C::bm).contains (.type "NameError")=false
 hE:(Value.ref C::bm).contains (.type "BaseException")=true
end
end L3
namespace L3
open PySem PySem.W PySem.Calls PyProof.Rows Builtin Builtin.ObjectAttr
structure ExcSet(K:Frag)(C:Addr)(name:Str):Prop where
 cls:∃cd own,clsIn K C=some cd∧cd.hasDict=true∧cd.mro=own++[.type "ValueError",.type "Exception",.type "BaseException",.type "object"]∧∀v∈own,∃a,v=Value.ref a
 no:findIn K (.ref C) name=some none
 set:findIn K (.ref C) "__setattr__"=some (some (.builtin "object.__setattr__"))
section
variable{prog:Program}{w:World}{A:Around}{K:Frag}{C e:Addr}{s:Shared}{name:Str}{R:Result→Shared→Prop}
structure ExcGet(K:Frag)(C:Addr)(name:Str):Prop where
 cls:∃cd,clsIn K C=some cd∧cd.hasDict=true
 no:findIn K (.ref C) name=some none
 ga:findIn K (.ref C) "__getattribute__"=some (some (.builtin "BaseException.__getattribute__"))
 gh:findIn K (.ref C) "__getattr__"=some none
 base:mroIn K C (.type "BaseException")=some true
theorem Zq4(self:Value):bindSpecial (.builtin "BaseException.__getattribute__") self=pure (.builtin "BaseException.__getattribute__",[self]):=by kernel_rfl
theorem Zs6:builtinKind "BaseException.__getattribute__"=some .slot:=by decide+kernel
theorem Z99:splitId "BaseException.__getattribute__"=some ("BaseException","__getattribute__"):=by decide+kernel
theorem Zb7:plainId "BaseException.__getattribute__"=true:=by decide+kernel
theorem Zq5(a b:Value):argsOk "BaseException.__getattribute__" ⟨[a,b],[]⟩:=by unfold argsOk;kernel_rfl
end
end L3
namespace L3
open PySem PySem.Spec PyProof.Rows L2
noncomputable def XO(e:Addr)(cls:Value)(dd:Option Addr):HO:= .ext fun h=>∃oe vs tb,h.get? e=some oe∧(oe.cls=cls∧oe.dict=dd)∧oe.data= .fields vs∧vs[1]?=some tb
theorem XO.at{P:Program}{w:World}{H:Hp}{h:Heap}{e:Addr}{cls:Value}{dd:Option Addr}(x:X9 P w H h e (XO e cls dd)):∃tb,ExAt h e cls dd tb:=by
 obtain⟨⟨oe,vs,tb,q1,q2,q3,q4⟩,_⟩:=x
 exact⟨tb,oe,vs,q1,q2,q3,q4⟩
noncomputable def CX1(P:Program)(w:World):CXT:=fun outer H s E e s'=>∃(ea T:Addr) (cls:Value) (dd:Option Addr) (H':Hp),e= .ref ea∧s'.os=s.os∧AllBare s'.gens∧Un (frs outer) [] H H' s.heap s'.heap∧HOk P w H' s'.heap∧
 (s.heap.objs.size≤ea∧s.heap.objs.size≤T)∧H' ea=some (XO ea cls dd)∧(H' T=none∧T≠ea)∧ExAt s'.heap ea cls dd (.ref T)∧TbAt s'.heap T .none∧E cls dd H'
structure Leaves(X:Cx)(E:XK):Prop where
 stk:X.stack=X.env::X.outer
 fr:X.env.frame=some X.env.locals
 ex:X.ex=[]
 xe:∀e s',wpAny (model X.prog X.w) X.A (leaving X.env e) (fun _ s''=>CX1 X.prog X.w X.outer X.H₀ X.s₀ E e s'') (fun e' s''=>CX1 X.prog X.w X.outer X.H₀ X.s₀ E e' s'') s'→X.xe e s'
structure ExcMk(K:PySem.W.Frag)(C f:Addr):Prop where
 cls:∃nm q N bs bm hdct sn sub ab col dd k0 k1 k2 k3 k5,K.lookup C=some (excClassObj nm q C N bs bm hdct sn sub ab col dd k0 k1 k2 k3 k5 "ValueError.__new__")∧(Value.ref C::bm).contains (.type "ValueError")=true∧
  (Value.ref C::bm).contains (.type "AttributeError")=false∧(Value.ref C::bm).contains (.type "NameError")=false∧(Value.ref C::bm).contains (.type "BaseException")=true
 init:PySem.W.findIn K (.ref C) "__init__"=some (some (.ref f))
 fn:PySem.W.isFn K (.ref f)=true
 kp:PySem.W.keepIn K (.ref C)=true
theorem ExcMk.at{K:PySem.W.Frag}{C f:Addr}(M:ExcMk K C f){h:Heap}(k:K.In h):∃nm q N bs bm hdct sn sub ab col dd k0 k1 k2 k3 k5,ExcCls h C nm q N bs bm hdct sn sub ab col dd k0 k1 k2 k3 k5 "ValueError" "ValueError.__new__":=by
 obtain⟨nm,q,N,bs,bm,hdct,sn,sub,ab,col,dd,k0,k1,k2,k3,k5,h1,h2,h3,h4,h5⟩:=M.cls
 exact⟨nm,q,N,bs,bm,hdct,sn,sub,ab,col,dd,k0,k1,k2,k3,k5,k _ _ h1,h2,h3,h4,h5⟩
end L3
namespace L3
open PySem PySem.W PySem.Calls PyProof.Rows Builtin Builtin.ObjectAttr
section
variable{prog:Program}{w:World}{A:Around}{E:Value→Shared→Prop}{K:Frag}{C D e:Addr}{s:Shared}
structure ExcIs(K:Frag)(C:Addr):Prop where
 cls:∃cd,clsIn K C=some cd∧cd.hasDict=true
 ga:findIn K (.ref C) "__getattribute__"=some (some (.builtin "BaseException.__getattribute__"))
 gh:findIn K (.ref C) "__getattr__"=some none
 base:mroIn K C (.type "BaseException")=some true
 own:findIn K (.ref C) "__class__"=some (some (.builtin "object.__class__"))
 ds:specialIn K (.builtin "object.__class__") "__get__"=some (some (.builtin "getset_descriptor.__get__"))
 tk:takesIn K (.builtin "object.__class__")=some true
 obj:mroIn K C (.type "object")=some true
theorem Z56{oe:Obj}{od:Obj}{Q:Option Value→Shared→Prop}(X:K.In s.heap)(S:ExcIs K C)(J:InstAt s.heap e oe C (some od))(h:Q (some (.ref C)) {s with toks:=s.toks+1}):
  wpAny (model prog w) A (getAttr? (.ref e) "__class__") Q E s:=by
 obtain⟨⟨cd,hcd,hdict⟩,hga,hgh,hbase,hown,hds,htk,hobj⟩:=S
 obtain⟨hp,g,d,t,os⟩:=s
 have hf:findObj K C (some od) "__class__"=some (.bind (.builtin "getset_descriptor.__get__") (.builtin "object.__class__")):=findObj_data (by rw[hcd];rfl) hown hds htk
 have L0:=J.type (M:=model prog w)
 have L1:=looks_findIn (M:=model prog w) X hga
 have L2:=looks_findIn (M:=model prog w) X hgh
 have L3':=looks_find (M:=model prog w) X J hf
 have sub:Looks (model prog w) hp (isInstance (.ref e) (.type "BaseException")) true:=L0.andThen (looks_mroIn X hbase)
 unfold getAttr? getAttrBy? getAttrBy
 refine wpAny_bind (wpAny_mkText (wpAny_bind (wpAny_attempt (wpAny_holding (wpAny_bind (L0.at (wpAny_bind (L1.at ?_))))))))
 show wpAny _ _ (getAttrByItsOwn _ _ _ _ _ _) _ _ _
 unfold getAttrByItsOwn
 refine wpAny_bind (L2.at (wpAny_bind (wpAny_attempt (wpAny_holding ?_))))
 unfold callGetattribute
 rw[if_neg (by decide)]
 unfold boundAndCalled
 rw[Zq4]
 refine wpAny_bind (wpAny_pure (wpAny_call ?_))
 refine codeAny_call_builtin Zb7 F.entry_bexc_ga (@check_slot (model prog w) _ _ _ "BaseException.__getattribute__" "BaseException" "__getattribute__" (.ref e) [.str "__class__" t] [] _ Zs6 Z99 sub (Zq5 (.ref e) (.str "__class__" t)) ?_)
 show wpAny _ _ (typeOf (.ref e) >>=fun tp=>find (.ref e) tp "__class__" >>=_) _ _ _
 refine wpAny_bind (L0.at (wpAny_bind (L3'.at ?_)))
 have hcall:=class_get (prog:=prog) (w:=w) (A:=A.in1) (s:=⟨hp,g,d,t+1,os⟩) (tp:= .ref C) (R:=fun r s'=>r= .ok (.ret (.ref C))∧s'=⟨hp,g,d,t+1,os⟩) X J hobj ⟨rfl,rfl⟩
 unfold bindTo
 refine wpAny_bind (wpAny_holding (wpAny_call (codeAny_mono hcall fun r s' z=>?_)))
 obtain⟨rfl,rfl⟩:=z
 refine wpAny_pure ?_
 show wpAny _ _ (handedOut (.ref C)) _ _ _
 exact handed_on rfl (wpAny_pure h)
end
end L3
namespace L3
open PySem PySem.Spec PyProof.Rows L2
section
variable{K:PySem.W.Frag}{C e:Addr}
theorem Gj{oe od:Obj}(S:ExcIs K C):PySem.W.KitX K (.ref e) (.ref C) (fun h=>PySem.W.InstAt h e oe C (some od)) where
 ty:=fun _ _ _ I=>I.type
 it:=fun _ _ X _=>by
  obtain⟨cd,hcd,_⟩:=S.cls
  unfold PySem.W.clsIn at hcd
  split at hcd
  ·rename_i ho
   intro A' Q' E' s' k q
   unfold isType loadHead
   exact wpAny_bind (wpAny_loadPart (k _ _ (X _ _ ho)) (wpAny_pure q))
  ·cases hcd
 ne:=fun h tp dd its n sl X htp=>by
  obtain⟨cd,hcd,_⟩:=S.cls
  refine Bool.eq_false_iff.mpr fun q=>?_
  have z:C=tp:=Value.ref.inj (beq_iff_eq.mp q)
  subst z
  unfold PySem.W.clsIn at hcd
  split at hcd
  ·rename_i ho
   have y:=(X _ _ ho).symm.trans htp
   cases y
  ·cases hcd
 ca:=fun X I k=>Z56 X S I k
variable{X:Cx}{pins:List (Addr×Obj)}{σ:L2.St}{H:Hp}{s:Shared}{dx:Addr}{fs:List (Str×V)}
theorem Fy(I:Inv X pins σ H s)(he:H e=some (XO e (.ref C) (some dx)))(hd:H dx=some (.xd fs)):∃(oe od:Obj) (mA:Str→Option Value),PySem.W.InstAt s.heap e oe C (some od)∧(∀name,PySem.W.lookIn name od=some (mA name))∧∀f,RelO (fs.lookup f) (mA f):=by
 obtain⟨tb,oe,vs,h1,⟨h2,h3⟩,h4,_⟩:=XO.at (I.hok e _ he)
 obtain⟨mA,hn,hr⟩:=(show X9 X.prog X.w H s.heap dx (.xd fs) from I.hok dx _ hd)
 obtain⟨od,q1,q2⟩:=Nn hn
 refine⟨oe,od,mA,⟨h1,h2,by unfold PySem.W.notCls;rw[h4],by rw[h3];exact q1⟩,q2,hr⟩
def rIsX(K:PySem.W.Frag):List V→Hp→VK→Prop:=fun xs H Q=>∃e C dx fs c cv b,xs=[.ref e,c]∧H e=some (XO e (.ref C) (some dx))∧H dx=some (.xd fs)∧ExcIs K C∧(∀u,RelV c u→u=cv)∧PySem.W.kitOne K (.ref C) cv=some b∧Q (.bl b) H
theorem Fh:Wt X (.builtin "isinstance") (rIsX X.K):=by
 intro pins s σ H xs us Q I r h
 obtain⟨e,C,dx,fs,c,cv,b,rfl,he,hd,S,hc,k,q⟩:=h
 obtain⟨u,v,rfl,ru,rv⟩:=Ga r
 obtain rfl:u=Value.ref e:=ru
 cases hc v rv
 obtain⟨oe,od,mA,J,_⟩:=Fy I he hd
 exact PySem.W.kia_one (Gj S) I.kIn J k (fun z=>nomatch z) fun tk=>⟨.bl b,H,I.tok tk,rfl,q⟩
end
def XP(X:Cx)(pins:List (Addr×Obj))(σ:L2.St)(E:XK)(x:Value)(s':Shared):Prop:=∃(e T:Addr) (cls:Value) (dd:Option Addr) (H':Hp),x= .ref e∧Inv X pins σ H' s'∧FpOk X pins H' T∧T≠e∧H' e=some (XO e cls dd)∧
 ExAt s'.heap e cls dd (.ref T)∧TbAt s'.heap T .none∧E cls dd H'
structure Catch(K:PySem.W.Frag)(C D:Addr)(b:Bool):Prop where
 ty:PySem.W.typeIn K (.ref D)=some (.type "type")
 cls:(PySem.W.clsIn K D).isSome=true
 exc:PySem.W.mroIn K D (.type "BaseException")=some true
 sub:PySem.W.mroIn K C (.ref D)=some b
section
open PySem.W
end
end L3
namespace L3
open PySem PyProof.Rows
section
variable{prog:Program}{w:World}{A:Around}{E:Value→Shared→Prop}{s:Shared}
abbrev Zi3(h:Heap)(z TI TO:Addr)(f0:Value)(b:Bool):Prop:=
 h.get? z=some {cls:= .type "zip",dict:=none,data:= .fields #[f0,.bool b,.bool false,.ref TI,.ref TO],slots:=#[]}
end
section
variable{prog:Program}{w:World}{A:Around}{E:Value→Shared→Prop}{s:Shared}
structure ZS(h0 h:Heap)(S z TI TO i1 i2 l1 l2:Addr)(xs ys:Array Value)(Ts:List Addr):Prop where
 kept:∀b o,h0.get? b=some o→h.get? b=some o
 zp:(Ts=[]∧Zi3 h z TI TO .none false∧∃a b,IsPair h TO a b)∨∃(T:Addr) (b:Bool) (oT:Obj),Zi3 h z TI TO (rawInt T) b∧h.get? T=some oT
 ti:IsPair h TI (.ref i1) (.ref i2)
 to:∃o,h.get? TO=some o
 t1:h.IsListIter i1 l1 Ts.length
 t2:h.IsListIter i2 l2 Ts.length
 nd:Ts.Nodup
 tp:∀(j:Nat) T,Ts[j]?=some T→∃x y,xs[j]?=some x∧ys[j]?=some y∧IsPair h T x y
 tb:∀T∈Ts,h0.objs.size≤T∧T≠z∧T≠TO∧T≠i1∧T≠i2∧T≠S
structure ZF(h0:Heap)(S z TI TO i1 i2 l1 l2:Addr)(xs ys:Array Value):Prop where
 D:ZipApart z TI TO i1 i2 l1 l2
 l1:h0.IsList l1 xs
 l2:h0.IsList l2 ys
 nz:h0.objs.size≤z
 nTO:h0.objs.size≤TO
 n1:h0.objs.size≤i1
 n2:h0.objs.size≤i2
 nS:h0.objs.size≤S
 sz:S≠z
 sTI:S≠TI
 sTO:S≠TO
 s1:S≠i1
 s2:S≠i2
end
structure ZEnd(h0 h:Heap)(S:Addr)(xs ys:Array Value)(Ts:List Addr):Prop where
 kept:∀b o,h0.get? b=some o→h.get? b=some o
 len:Ts.length=min xs.size ys.size
 nd:Ts.Nodup
 tp:∀(j:Nat) T,Ts[j]?=some T→∃x y,xs[j]?=some x∧ys[j]?=some y∧IsPair h T x y
 tb:∀T∈Ts,h0.objs.size≤T∧T≠S
 so:∃c,h.get? S=some {cls:= .type "list",dict:=none,data:= .seq (Ts.map Value.ref).toArray c,slots:=#[]}
end L3
namespace L3
open PySem PySem.Spec PyProof.Rows L2
section
variable{X:Cx}
noncomputable def eqVs(vs ys:List V):Bool:=(List.range (min vs.length ys.length)).all (fun j=>eqV (vs.getD j .non) (ys.getD j .non))&&vs.length==ys.length
noncomputable def eqUT(H:Hp)(ys:List V):Value→Bool
 | .ref a=>match H a with
  | some (.tup vs)=>eqVs vs ys
  | _=>false
 | _=>false
theorem Zb4{x:V}(h:Wa x=true):eqV x x=true:=by
 cases x<;>first | rfl | (simp[eqV];done) | exact absurd (show false=true from h) Bool.false_ne_true
theorem Z35{xs:List V}(h:xs.all Wa=true):eqVs xs xs=true:=by
 unfold eqVs
 rw[Bool.and_eq_true,List.all_eq_true]
 refine⟨fun j hj=>?_,by simp⟩
 rw[List.mem_range] at hj
 have hl:j<xs.length:=by omega
 rw[List.all_eq_true] at h
 rw[List.getD_eq_getElem?_getD,List.getElem?_eq_getElem hl]
 exact Zb4 (h _ (List.getElem_mem hl))
theorem Zs9{A:Around}{pins:List (Addr×Obj)}{σ:L2.St}{H:Hp}{s:Shared}(I:Inv X pins σ H s)(hu:A.units+2<cLine){a b:Addr}{vs ys:List V}(ha:H a=some (.tup vs))(hb:H b=some (.tup ys))(fa:vs.all Wa=true)(fb:ys.all Wa=true):SeqAt.EqAt A s (.ref a) (.ref b) (eqVs vs ys):=by
 by_cases e:a=b
 ·subst e
  rw[ha] at hb
  cases hb
  rw[Z35 fa]
  exact SeqAt.EqAt.same _
 ·obtain⟨us,ru,ta,_⟩:=I.tuple (.of ha)
  obtain⟨ws,rw',tb,_⟩:=I.tuple (.of hb)
  have l1:=ru.length
  have l2:=rw'.length
  have key:=SeqAt.RcAt.tuples (A:=A) (e:=fun j=>eqV (vs.getD j .non) (ys.getD j .non)) ta tb (by omega) (fun j h1 h2=>by
   have j1:j<vs.length:=by rw[List.size_toArray] at h1;omega
   have j2:j<ys.length:=by rw[List.size_toArray] at h2;omega
   obtain⟨u,e1,r1⟩:=ru.get (List.getElem?_eq_getElem j1)
   obtain⟨w,e2,r2⟩:=rw'.get (List.getElem?_eq_getElem j2)
   have x1:us.toArray[j]=u:=by have:=(List.getElem?_eq_some_iff.mp e1).2;simpa using this
   have x2:ws.toArray[j]=w:=by have:=(List.getElem?_eq_some_iff.mp e2).2;simpa using this
   rw[x1,x2,List.getD_eq_getElem?_getD,List.getD_eq_getElem?_getD,List.getElem?_eq_getElem j1,List.getElem?_eq_getElem j2]
   rw[List.all_eq_true] at fa fb
   exact Fx r1 r2 (fa _ (List.getElem_mem j1)) (fb _ (List.getElem_mem j2)))
  have hs:((List.range (min us.toArray.size ws.toArray.size)).all (fun j=>eqV (vs.getD j .non) (ys.getD j .non))&&us.toArray.size==ws.toArray.size)=eqVs vs ys:=by
   unfold eqVs
   rw[List.size_toArray,List.size_toArray,l1,l2]
  rw[hs] at key
  exact SeqAt.EqAt.of_refs e key
theorem Zl4{pins:List (Addr×Obj)}{σ:L2.St}{H:Hp}{s:Shared}{h':Heap}{t':Nat}{a b:Addr}(I:Inv X pins σ H s)(k:∀c o,c≠a→c≠b→s.heap.get? c=some o→h'.get? c=some o)(fa:FpOk X pins H a)(fb:FpOk X pins H b):Inv X pins σ H {s with heap:=h',toks:=t'}:=by
 have na:∀c u,H c=some u→c≠a:=by
  intro c u e z
  rw[z,fa.1] at e
  cases e
 have nb:∀c u,H c=some u→c≠b:=by
  intro c u e z
  rw[z,fb.1] at e
  cases e
 have kk:∀c o,c∉[a,b]→s.heap.get? c=some o→h'.get? c=some o:=by
  intro c o hc e
  refine k c o ?_ ?_ e
  ·intro z;apply hc;rw[z];simp
  ·intro z;apply hc;rw[z];simp
 refine I.step (ch:=[a,b]) (g':=s.gens) (d':=s.drawn) ?_ ?_ ?_ ?_ ?_ ?_ ?_ ?_ ?_ ?_ I.bare
 ·intro c hc
  have:c=a∨c=b:=by simpa using hc
  rcases this with rfl | rfl
  ·exact⟨fa.2.2.2.1,fa.2.1,fa.2.2.2.2.1,fa.2.2.2.2.2⟩
  ·exact⟨fb.2.2.2.1,fb.2.1,fb.2.2.2.2.1,fb.2.2.2.2.2⟩
 ·intro c o _ _ hc e _;exact kk c o hc e
 ·intro c o _ _ hc e _;exact⟨o.slots,kk c o hc e⟩
 ·intro _ _ _ _ n;exact n
 ·intro c o hc e;exact⟨o,kk c o hc e⟩
 ·intro _ _ e;exact e
 ·intro _ _ _ e;exact e
 ·intro c ps e;exact⟨#[],by rw[e];simp⟩
 ·rintro m ⟨o,es,ep,ho,r⟩
  exact⟨o,es,ep,k _ o (Ne.symm fa.2.1) (Ne.symm fb.2.1) ho,r⟩
 ·intro c u e
  refine(I.hok c u e).stay ?_ (fun _ q=>q) fun _ _ q=>q
  intro d v hd q
  rcases hd with z | z
  ·subst z;exact k d v (na d u e) (nb d u e) q
  ·exact k d v (na d _ z) (nb d _ z) q
noncomputable def Ite(K:PySem.W.Frag)(a:Addr):It:=
 ⟨fun i H=>∃xs x,SqL K H a xs∧xs[i]?=some x,fun i H x H'=>∃p y,H p=none∧H'=upd H p (.tup [.int i,y])∧x= .ref p∧∀xs,SqL K H a xs→xs[i]?=some y,fun i H=>∃xs,SqL K H a xs∧xs.length≤i⟩
theorem S7{h:Heap}{o u:Obj}{b:Addr}(e:(h.push o).get? b=some u):h.get? b=some u∨b=h.objs.size:=by
 by_cases hb:b=h.objs.size
 ·exact .inr hb
 ·refine .inl ?_
  have hl:=Heap.lt_size e
  rw[Heap.size_push] at hl
  obtain⟨e1,e2⟩:=Heap.get?_some_iff.mp e
  refine Heap.get?_some_iff.mpr ⟨?_,e2⟩
  cases h
  simpa[Heap.push,Array.getElem?_push,hb] using e1
theorem Z67{P:Program}{w:World}{K:PySem.W.Frag}{elts:List Expr}{x1:Nat}{tp:Pos}(a e it:Addr)(hne:e≠it):
  Turn P w K (.Tuple elts x1 tp) (Ite K a) [e,it] e (fun i h=>(∃old,IsEnum h e it i old)∧h.IsListIter it a i) where
 mem:=by simp
 obj:=by
  rintro i h ⟨⟨old,he⟩,hit⟩ b hb
  have:b=e∨b=it:=by simpa using hb
  rcases this with rfl | rfl
  ·exact⟨_,he,fun v z=>by cases z⟩
  ·obtain⟨o,e,c,d⟩:=hit
   exact⟨o,e,fun v z=>by rw[d] at z;cases z⟩
 keep:=by
  rintro i h h' ⟨⟨old,he⟩,hit⟩ k
  exact⟨⟨old,k e (by simp) _ he⟩,hit.at fun o z=>k it (by simp) o z⟩
 item:=by
  rintro X rfl rfl rfl hc i pins s σ H E I hf ⟨⟨old,he⟩,hit⟩ ⟨xs,x,hq,hx⟩
  obtain⟨its,rv,p,hz⟩:=I.list hq
  obtain⟨u,hu,ru⟩:=rv.get hx
  have fe:=hf e (by simp)
  have fi:=hf it (by simp)
  have le:e<s.heap.objs.size:=Heap.lt_size he
  have li:it<s.heap.objs.size:=by obtain⟨o,z,_⟩:=hit;exact Heap.lt_size z
  refine wpAny_pyNext_enum_item he hit p.isList (x:=u) (by simpa using hu) hne fun h1 ho hit1 hT hsz hk=>?_
  refine⟨_,rfl,wpAny_letOwnedTupleGo_enum ho fun h2 he2 hs2=>?_⟩
  replace hs2:Heap.SameBut e h1 h2:=hs2
  have hT2:h2.get? s.heap.objs.size=some {cls:= .type "tuple",data:= .seq #[.int i s.toks,u]}:=(hs2.2 _ (Nat.ne_of_gt le)).trans hT
  have hn:H s.heap.objs.size=none:=I.hok.fresh (Nat.le_refl _)
  have I1:Inv X pins σ (upd H s.heap.objs.size (.tup [.int i,x])) {s with heap:=s.heap.push {cls:= .type "tuple",data:= .seq #[.int i s.toks,u]},toks:=s.toks+1}:=by
   refine I.laid (fun b ob q=>Heap.get?_push_of_some _ q) (Nat.le_refl _) ⟨show 2≤sizeLine by rw[sizeLine_eq];omega,[.int i s.toks,u],.cons ⟨_,rfl⟩ (.cons ru .nil),⟨_,Heap.get?_push_size _ rfl,rfl,_,rfl⟩⟩
  have up:∀b,b<s.heap.objs.size→FpOk X pins H b→FpOk X pins (upd H s.heap.objs.size (.tup [.int i,x])) b:=by
   rintro b lb ⟨f0,f⟩
   refine⟨?_,f⟩
   rw[Zs (Nat.ne_of_lt lb)]
   exact f0
  have I2:=Zl4 (h':=h2) (t':=s.toks+1) I1 (fun c o ha hb e'=>by
   rcases S7 e' with z | z
   ·exact(hs2.2 c ha).trans (hk c o ha hb z)
   ·subst z
    have z2:(s.heap.push {cls:= .type "tuple",data:= .seq #[.int i s.toks,u]}).get? s.heap.objs.size=some o:=e'
    rw[Heap.get?_push_size _ rfl] at z2
    cases z2
    exact hT2) (up e le fe) (up it li fi)
  refine⟨.ref s.heap.objs.size,_,I2,rfl,⟨_,x,hn,rfl,rfl,fun ys hy=>by rw[I.list_inj hy hq];exact hx⟩,⟨⟨_,by simpa using he2⟩,hit1.at fun o z=>(hs2.2 it (Ne.symm hne)).trans z⟩,fun b hb=>?_⟩
  have:b=e∨b=it:=by simpa using hb
  rcases this with rfl | rfl
  ·exact(up _ le fe).1
  ·exact(up _ li fi).1
 done:=by
  rintro X rfl rfl rfl hc i pins s σ H E I hf ⟨⟨old,he⟩,hit⟩ ⟨xs,hq,hx⟩
  obtain⟨its,rv,p,hz⟩:=I.list hq
  obtain⟨f0,f1,f2,f3,f4,f5⟩:=hf it (by simp)
  have hl:=rv.length
  exact wpAny_pyNext_enum_end (I.ok.hd hc) he hit p.isList (by simp;omega) fun h' eb=>⟨rfl,I.turned (t':=s.toks) (fun b o hb e=>eb b o hb e) f0 f1 f3 f4 f5⟩
 self:=by
  rintro A i s Q E ⟨⟨old,he⟩,hit⟩ h
  exact wpAny_pyIter_enum he h
def Y43(K:PySem.W.Frag)(ta:TA):TI:=fun σ H R=>ta σ H fun vs H1=>∃a,vs=[V.ref a]∧(∃xs,SqL K H1 a xs)∧R (Ite K a) H1
theorem Zp8{elts:List Expr}{x1:Nat}{tp:Pos}{l:Expr}{ta:TA}{p pos:Pos}(hg:Gl X "enumerate")(hm:X.mg "enumerate"=none)(ha:PA X [l] ta)(hs:starEach [l] X.env=[(false,eval l X.env)]):
  PI X (.Tuple elts x1 tp) (.Call (.Name "enumerate" p) [l] [] pos) (Y43 X.K ta):=by
 intro pins s σ H R I h
 refine Call_ (Q3 I hg hm (u:= .type "enumerate") (by kernel_rfl) (PyProof.Rows.callWith_type1 (thn (ha pos pins s σ H _ I h) fun us s1 zz57=>?_) hs rfl))
 obtain⟨vs,H1,I1,r1,q1⟩:=zz57
 obtain⟨a,rfl,⟨xs,hq⟩,q⟩:=q1
 obtain⟨u,rfl,ru⟩:=Q6 r1
 cases ru
 obtain⟨its,rv,pl,hz⟩:=I1.list hq
 refine call_enumerate_list pl.isList fun h' he hit hsz hk=>?_
 refine wpAny_pyIter_enum he ?_
 have hne:s1.heap.objs.size+1≠s1.heap.objs.size:=by omega
 refine⟨s1.heap.objs.size+1,[s1.heap.objs.size+1,s1.heap.objs.size],_,_,H1,rfl,I1.kept (t':=s1.toks) hk,Z67 a _ _ hne,⟨⟨_,he⟩,hit⟩,fun b hb=>?_,q⟩
 have hb':s1.heap.objs.size≤b:=by
  have:b=s1.heap.objs.size+1∨b=s1.heap.objs.size:=by simpa using hb
  rcases this with rfl | rfl
  ·exact Nat.le_succ _
  ·exact Nat.le_refl _
 exact I1.fpOk hb' (I1.hok.fresh hb')
end
end L3
namespace PySem
end PySem
namespace L3
open PySem PySem.Spec PyProof.Rows L2
section
variable{X:Cx}
theorem Ol{pins:List (Addr×Obj)}{σ:L2.St}{H:Hp}{s:Shared}{h':Heap}{t':Nat}{ch:List Addr}(I:Inv X pins σ H s)(k:∀c o,c∉ch→s.heap.get? c=some o→h'.get? c=some o)(f:∀b∈ch,FpOk X pins H b):Inv X pins σ H {s with heap:=h',toks:=t'}:=by
 have nn:∀c u,H c=some u→c∉ch:=by
  intro c u e z
  rw[(f c z).1] at e
  cases e
 refine I.step (ch:=ch) (g':=s.gens) (d':=s.drawn) ?_ ?_ ?_ ?_ ?_ ?_ ?_ ?_ ?_ ?_ I.bare
 ·intro c hc
  exact⟨(f c hc).2.2.2.1,(f c hc).2.1,(f c hc).2.2.2.2.1,(f c hc).2.2.2.2.2⟩
 ·intro c o _ _ hc e _;exact k c o hc e
 ·intro c o _ _ hc e _;exact⟨o.slots,k c o hc e⟩
 ·intro _ _ _ _ n;exact n
 ·intro c o hc e;exact⟨o,k c o hc e⟩
 ·intro _ _ e;exact e
 ·intro _ _ _ e;exact e
 ·intro c ps e;exact⟨#[],by rw[e];simp⟩
 ·rintro m ⟨o,es,ep,ho,r⟩
  exact⟨o,es,ep,k _ o (fun z=>(f _ z).2.1 rfl) ho,r⟩
 ·intro c u e
  refine(I.hok c u e).stay ?_ (fun _ q=>q) fun _ _ q=>q
  intro d v hd q
  rcases hd with z | z
  ·subst z;exact k d v (nn d u e) q
  ·exact k d v (nn d _ z) q
noncomputable def Itz(K:PySem.W.Frag)(a b:Addr):It:=
 ⟨fun i H=>∃xs ys x y,SqL K H a xs∧SqL K H b ys∧xs[i]?=some x∧ys[i]?=some y,
  fun i H x H'=>∃p u v,H p=none∧H'=upd H p (.tup [u,v])∧x= .ref p∧(∀xs,SqL K H a xs→xs[i]?=some u)∧∀ys,SqL K H b ys→ys[i]?=some v,
  fun i H=>∃xs ys,SqL K H a xs∧SqL K H b ys∧(xs.length≤i∨ys.length≤i)⟩
theorem Zf1{P:Program}{w:World}{K:PySem.W.Frag}{elts:List Expr}{x1:Nat}{tp:Pos}(z TI TO i1 i2 a b:Addr)(D:ZipApart z TI TO i1 i2 a b):
  Turn P w K (.Tuple elts x1 tp) (Itz K a b) [z,TI,TO,i1,i2] z (fun i h=>IsZip h z TI TO .none∧IsPair h TI (.ref i1) (.ref i2)∧(∃u v,IsPair h TO u v)∧h.IsListIter i1 a i∧h.IsListIter i2 b i) where
 mem:=by simp
 obj:=by
  rintro i h ⟨hz,hTI,⟨u,v,hTO⟩,⟨o1,e1,_,d1⟩,⟨o2,e2,_,d2⟩⟩ c hc
  simp only[List.mem_cons,List.not_mem_nil,or_false] at hc
  rcases hc with rfl | rfl | rfl | rfl | rfl
  ·exact⟨_,hz,fun v q=>by cases q⟩
  ·exact⟨_,hTI,fun v q=>by cases q⟩
  ·exact⟨_,hTO,fun v q=>by cases q⟩
  ·exact⟨_,e1,fun v q=>by rw[d1] at q;cases q⟩
  ·exact⟨_,e2,fun v q=>by rw[d2] at q;cases q⟩
 keep:=by
  rintro i h h' ⟨hz,hTI,⟨u,v,hTO⟩,h1,h2⟩ k
  exact⟨k z (by simp) _ hz,k TI (by simp) _ hTI,⟨u,v,k TO (by simp) _ hTO⟩,h1.at fun o q=>k i1 (by simp) o q,h2.at fun o q=>k i2 (by simp) o q⟩
 item:=by
  rintro X rfl rfl rfl hc i pins s σ H E I hf ⟨hz,hTI,⟨u0,v0,hTO⟩,h1,h2⟩ ⟨xs,ys,x,y,hq,hr,hx,hy⟩
  obtain⟨its,rv,p,_⟩:=I.list hq
  obtain⟨jts,rw2,p2,_⟩:=I.list hr
  obtain⟨u,hu,ru⟩:=rv.get hx
  obtain⟨v,hv,rv2⟩:=rw2.get hy
  have lt:∀c∈[z,TI,TO,i1,i2],@LT.lt Nat _ c s.heap.objs.size:=by
   intro c hc
   simp only[List.mem_cons,List.not_mem_nil,or_false] at hc
   obtain⟨o1,e1,_⟩:=id h1
   obtain⟨o2,e2,_⟩:=id h2
   rcases hc with rfl | rfl | rfl | rfl | rfl
   ·exact Heap.lt_size hz
   ·exact Heap.lt_size hTI
   ·exact Heap.lt_size hTO
   ·exact Heap.lt_size e1
   ·exact Heap.lt_size e2
  refine wpAny_pyNext_zip_item D hz hTI hTO h1 h2 p.isList p2.isList (x:=u) (y:=v) (by simpa using hu) (by simpa using hv) fun hh ho hTO2 g1 g2 hT hsz hk=>?_
  refine⟨_,rfl,wpAny_letOwnedTupleGo_zip ho fun h3 hz3 hs3=>?_⟩
  replace hs3:Heap.SameBut z hh h3:=hs3
  have nz:s.heap.objs.size≠z:=Nat.ne_of_gt (lt z (by simp))
  have hT3:h3.get? s.heap.objs.size=some {cls:= .type "tuple",data:= .seq #[u,v]}:=(hs3.2 _ nz).trans hT
  have hn:H s.heap.objs.size=none:=I.hok.fresh (Nat.le_refl _)
  have I1:Inv X pins σ (upd H s.heap.objs.size (.tup [x,y])) {s with heap:=s.heap.push {cls:= .type "tuple",data:= .seq #[u,v]},toks:=s.toks}:=
   I.laid (fun b ob q=>Heap.get?_push_of_some _ q) (Nat.le_refl _) ⟨show 2≤sizeLine by rw[sizeLine_eq];omega,[u,v],.cons ru (.cons rv2 .nil),⟨_,Heap.get?_push_size _ rfl,rfl,_,rfl⟩⟩
  have up:∀c∈[z,TI,TO,i1,i2],FpOk X pins (upd H s.heap.objs.size (.tup [x,y])) c:=by
   intro c hc
   refine⟨?_,(hf c hc).2⟩
   rw[Zs (Nat.ne_of_lt (lt c hc))]
   exact(hf c hc).1
  have I2:=Ol (h':=h3) (t':=s.toks) I1 (fun c o hc e'=>by
   simp only[List.mem_cons,List.not_mem_nil,or_false,not_or] at hc
   rcases S7 e' with q | q
   ·exact(hs3.2 c hc.1).trans (hk c o hc.1 hc.2.2.1 hc.2.2.2.1 hc.2.2.2.2 q)
   ·subst q
    have z2:(s.heap.push {cls:= .type "tuple",data:= .seq #[u,v]}).get? s.heap.objs.size=some o:=e'
    rw[Heap.get?_push_size _ rfl] at z2
    cases z2
    exact hT3) up
  refine⟨.ref s.heap.objs.size,_,I2,rfl,⟨_,x,y,hn,rfl,rfl,fun zs hs=>by rw[I.list_inj hs hq];exact hx,fun zs hs=>by rw[I.list_inj hs hr];exact hy⟩,
   ⟨hz3,(hs3.2 TI D.TIz).trans (hk TI _ D.TIz D.TITO D.TIi1 D.TIi2 hTI),⟨_,_,(hs3.2 TO D.TOz).trans hTO2⟩,g1.at fun o q=>(hs3.2 i1 D.i1z).trans q,g2.at fun o q=>(hs3.2 i2 D.i2z).trans q⟩,fun c hc=>(up c hc).1⟩
 done:=by
  rintro X rfl rfl rfl hc i pins s σ H E I hf ⟨hz,hTI,⟨u0,v0,hTO⟩,h1,h2⟩ ⟨xs,ys,hq,hr,hl⟩
  obtain⟨its,rv,p,_⟩:=I.list hq
  obtain⟨jts,rw2,p2,_⟩:=I.list hr
  have l1:=rv.length
  have l2:=rw2.length
  refine wpAny_pyNext_zip_end (I.ok.hd hc) D hz hTI hTO h1 h2 p.isList p2.isList ?_ fun h' eb=>⟨rfl,Ol (t':=s.toks) I (ch:=[z,TI,TO,i1,i2]) (fun c o hc e=>?_) hf⟩
  ·rcases hl with hl | hl
   ·exact .inl (by simp;omega)
   ·exact .inr (by simp;omega)
  ·simp only[List.mem_cons,List.not_mem_nil,or_false,not_or] at hc
   exact eb c o hc.1 hc.2.2.1 hc.2.2.2.1 hc.2.2.2.2 e
 self:=by
  rintro A i s Q E ⟨hz,_⟩ h
  exact wpAny_pyIter_zip hz h
end
end L3
namespace SW
open PySem
def Rise(xs:Array Nat):Prop:=∀i k,i<k→k<xs.size→xs.getD i 0<xs.getD k 0
theorem Rise.le{xs:Array Nat}(h:Rise xs){i k:Nat}(a:i≤k)(b:k<xs.size):xs.getD i 0≤xs.getD k 0:=by
 rcases Nat.lt_or_eq_of_le a with a | rfl
 ·exact Nat.le_of_lt (h i k a b)
 ·exact Nat.le_refl _
theorem Zo2{xs:Array Nat}{i:Nat}(h:i<xs.size)(a b:Nat):xs.getD i a=xs.getD i b:=by
 rw[Array.getD_eq_getD_getElem?,Array.getD_eq_getD_getElem?,Array.getElem?_eq_getElem h];rfl
structure At(xs:Array Nat)(j i:Nat):Prop where
 le:i≤xs.size
 lo:∀k,k<i→xs.getD k 0<j
 hi:∀k,i≤k→k<xs.size→j≤xs.getD k 0
theorem Zr4{xs:Array Nat}(h:Rise xs)(j:Nat):∀(fuel lo hi:Nat),hi - lo≤fuel→lo≤hi→hi≤xs.size→(∀k,k<lo→xs.getD k 0<j)→(∀k,hi≤k→k<xs.size→j≤xs.getD k 0)→At xs j (SetTable.below.go xs j fuel lo hi)
 | 0,lo,hi,hf,hl,hs,a,b=>by
  have e:lo=hi:=by omega
  subst e
  exact⟨hs,a,b⟩
 | fuel+1,lo,hi,hf,hl,hs,a,b=>by
  unfold SetTable.below.go
  by_cases hlt:lo<hi
  ·rw[if_pos hlt]
   dsimp only
   have hm:(lo+hi) / 2<hi:=by omega
   have hm2:lo≤(lo+hi) / 2:=by omega
   rw[Zo2 (by omega:(lo+hi) / 2<xs.size) j 0]
   by_cases hc:xs.getD ((lo+hi) / 2) 0<j
   ·rw[if_pos hc]
    exact Zr4 h j fuel _ _ (by omega) (by omega) hs (fun k hk=>Nat.lt_of_le_of_lt (h.le (by omega) (by omega)) hc) b
   ·rw[if_neg hc]
    exact Zr4 h j fuel _ _ (by omega) (by omega) (by omega) a (fun k hk hk2=>Nat.le_trans (by omega) (h.le hk hk2))
  ·rw[if_neg hlt]
   have e:lo=hi:=by omega
   subst e
   exact⟨hs,a,b⟩
theorem Pu{xs:Array Nat}(h:Rise xs)(j:Nat):At xs j (SetTable.below xs j):=by
 unfold SetTable.below
 exact Zr4 h j _ _ _ (by omega) (by omega) (Nat.le_refl _) (fun k hk=>by omega) (fun k a b=>by omega)
theorem At.uniq{xs:Array Nat}{j i i':Nat}(a:At xs j i)(b:At xs j i'):i=i':=by
 rcases Nat.lt_trichotomy i i' with h | h | h
 ·have h1:=b.lo i h
  have h2:=a.hi i (Nat.le_refl _) (by have:=b.le;omega)
  omega
 ·exact h
 ·have h1:=a.lo i' h
  have h2:=b.hi i' (Nat.le_refl _) (by have:=a.le;omega)
  omega
theorem Ec{xs:Array Nat}(h:Rise xs):SetTable.below xs 0=0:=(Pu h 0).uniq ⟨Nat.zero_le _,fun k hk=>by omega,fun k _ _=>Nat.zero_le _⟩
theorem C0{xs:Array Nat}(h:Rise xs){i:Nat}(hi:i<xs.size):SetTable.below xs (xs.getD i 0+1)=i+1:=
 (Pu h _).uniq ⟨hi,fun k hk=>by have:=h.le (show k≤i by omega) hi;omega,fun k a b=>h i k (by omega) b⟩
theorem N3{α:Type}(xs:Array α)(p:Nat)(x:α)(h:p≤xs.size):(SetTable.insertAt xs p x).size=xs.size+1:=by
 unfold SetTable.insertAt
 simp only[Array.size_append,Array.size_push,Array.size_extract]
 omega
theorem Sk{xs:Array Nat}{p x:Nat}(h:p≤xs.size)(k:Nat):(SetTable.insertAt xs p x).getD k 0=if k<p then xs.getD k 0 else if k=p then x else xs.getD (k - 1) 0:=by
 unfold SetTable.insertAt
 simp only[Array.getD_eq_getD_getElem?,Array.getElem?_append,Array.size_push,Array.size_extract,Array.getElem?_push,Array.getElem?_extract,Nat.min_eq_left h,Nat.sub_zero,Nat.zero_add]
 by_cases h1:k<p
 ·rw[if_pos (by omega),if_neg (by omega),if_pos h1,if_pos h1]
 ·by_cases h2:k=p
  ·subst h2
   rw[if_pos (by omega),if_pos rfl,if_neg (by omega),if_pos rfl];rfl
  ·rw[if_neg (by omega),if_neg h1,if_neg h2,Nat.min_self]
   by_cases h3:k - 1<xs.size
   ·rw[if_pos (by omega),show p+(k - (p+1))=k - 1 by omega]
   ·rw[if_neg (by omega),Array.getElem?_eq_none (by omega)]
theorem G4{xs:Array Nat}(h:Rise xs){j:Nat}(hn:xs[SetTable.below xs j]?≠some j):Rise (SetTable.insertAt xs (SetTable.below xs j) j):=by
 have a:=Pu h j
 generalize SetTable.below xs j=p at a hn ⊢
 have hgt:∀k,p≤k→k<xs.size→j<xs.getD k 0:=by
  intro k h1 h2
  have h3:=a.hi k h1 h2
  rcases Nat.lt_or_eq_of_le h3 with h4 | h4
  ·exact h4
  ·exfalso
   have h5:=a.hi p (Nat.le_refl _) (by omega)
   have h6:=h.le h1 h2
   have h7:xs.getD p 0=j:=by omega
   apply hn
   rw[Array.getD_eq_getD_getElem?,Array.getElem?_eq_getElem (by omega)] at h7
   rw[Array.getElem?_eq_getElem (by omega)]
   exact congrArg some h7
 intro i k hik hk
 rw[N3 _ _ _ a.le] at hk
 rw[Sk a.le,Sk a.le]
 by_cases h1:i<p
 ·rw[if_pos h1]
  by_cases h2:k<p
  ·rw[if_pos h2];exact h i k hik (by have:=a.le;omega)
  ·rw[if_neg h2]
   by_cases h3:k=p
   ·rw[if_pos h3];exact a.lo i h1
   ·rw[if_neg h3];exact Nat.lt_trans (a.lo i h1) (hgt _ (by omega) (by omega))
 ·rw[if_neg h1,if_neg (show ¬k<p by omega),if_neg (show ¬k=p by omega)]
  by_cases h3:i=p
  ·rw[if_pos h3];exact hgt _ (by omega) (by omega)
  ·rw[if_neg h3];exact h _ _ (by omega) (by omega)
theorem Cs(n:Nat):Rise (Array.range n):=by
 intro i k h1 h2
 rw[Array.size_range] at h2
 simp only[Array.getD_eq_getD_getElem?,Array.getElem?_range]
 rw[if_pos (by omega),if_pos h2]
 exact h1
structure TOk(t:SetTable)(led:Bool):Prop where
 rise:Rise t.place
 dum:t.dummies=#[]
 led:t.led=led
theorem Fw(j:Nat):SetTable.has #[] j=false:=rfl
theorem B4{t:SetTable}(hd:t.dummies=#[])(j:Nat):t.slot j≠ .dummy:=by
 unfold SetTable.slot
 dsimp only
 rw[hd,Fw]
 split
 ·intro h;cases h
 ·intro h;rw[if_neg (by decide)] at h;cases h
theorem Ev{t:SetTable}{j:Nat}(h:t.slot j= .empty):t.place[SetTable.below t.place j]?≠some j:=by
 intro e
 unfold SetTable.slot at h
 dsimp only at h
 rw[if_pos (by rw[e];simp)] at h
 cases h
theorem Z60(t:SetTable)(p:SetTable.Probe):(t.advance p).dummy=p.dummy:=by
 unfold SetTable.advance
 split
 ·rfl
 ·rfl
theorem E5{t:SetTable}(hd:t.dummies=#[])(f:Nat→Int)(h:Int):∀(fuel:Nat) (p:SetTable.Probe) (j:Nat) (d:Option Nat),p.dummy=none→SetTable.probe.go t f h fuel p=some (.empty j d)→d=none∧t.slot j= .empty
 | 0,p,j,d,_,e=>by cases e
 | fuel+1,p,j,d,hp,e=>by
  unfold SetTable.probe.go at e
  cases hs:t.slot p.j with
  | empty=>
   rw[hs] at e
   cases e
   exact⟨hp,hs⟩
  | dummy=>exact absurd hs (B4 hd _)
  | live i=>
   rw[hs] at e
   dsimp only at e
   split at e
   ·cases e
   ·exact E5 hd f h fuel _ j d (by rw[Z60,hp]) e
theorem C3{t:SetTable}(hd:t.dummies=#[]){h:Int}{k:Nat}{b:Bool}(e:t.freeSlot h=some (k,b)):t.slot k= .empty∧b=false:=by
 unfold SetTable.freeSlot at e
 split at e
 ·rename_i j dm hm
  cases e
  unfold SetTable.probe at hm
  obtain⟨rfl,h2⟩:=E5 hd _ _ _ _ _ _ rfl hm
  exact⟨h2,rfl⟩
 ·cases e
theorem Rj{t:SetTable}{led:Bool}(h:TOk t led)(n:Nat):TOk (t.standIn n) led:=⟨Cs n,rfl,h.led⟩
theorem Cp{t:SetTable}{led:Bool}(h:TOk t led)(n:Nat):TOk (t.orStandIn n) led:=by
 unfold SetTable.orStandIn
 split
 ·exact h
 ·exact Rj h n
theorem Zz6{t:SetTable}{led:Bool}(h:TOk t led){j:Nat}(e:t.slot j= .empty):TOk (t.put j).1 led:=by
 unfold SetTable.put
 dsimp only
 refine⟨G4 h.rise (Ev e),?_,h.led⟩
 dsimp only
 rw[h.dum,Fw]
 rfl
theorem Zu0{t:SetTable}{led:Bool}(h:TOk t led)(es:Array (Int×Value))(k:Int)(x:Value):TOk (layNew t es k x).2.1 led:=by
 unfold layNew
 cases e:t.freeSlot k with
 | none=>exact Rj h _
 | some s=>
  obtain⟨slot,b⟩:=s
  dsimp only
  exact Cp (Zz6 h (C3 h.dum e).1) _
theorem Zn7{l:List Nat}(hp:l.Pairwise (· < ·)):Rise l.toArray:=by
 intro i k hik hk
 rw[List.size_toArray] at hk
 have:=List.pairwise_iff_getElem.mp hp i k (by omega) hk hik
 simp only[Array.getD_eq_getD_getElem?,List.getElem?_toArray]
 rw[List.getElem?_eq_getElem hk,List.getElem?_eq_getElem (by omega)]
 exact this
theorem Z79(owner:Array (Option Nat))(n:Nat):Rise ((((List.range n).filterMap fun j=>(owner.getD j none).map (j,·)).map (·.1)).toArray):=by
 refine Zn7 ?_
 rw[List.pairwise_map]
 refine List.Pairwise.filterMap _ (R:=(· < ·)) ?_ List.pairwise_lt_range
 intro a b hab x hx y hy
 obtain⟨_,_,rfl⟩:=Option.map_eq_some_iff.mp hx
 obtain⟨_,_,rfl⟩:=Option.map_eq_some_iff.mp hy
 exact hab
theorem Zc5{t:SetTable}{led:Bool}(h:TOk t led)(es:Array (Int×Value))(n:Nat):TOk (relayAll t es n).2.1 led:=by
 unfold relayAll
 cases e:t.relaid (es.map (·.1)) n with
 | none=>exact Rj h _
 | some s=>
  obtain⟨t',order⟩:=s
  dsimp only
  split
  ·unfold SetTable.relaid SetTable.laid at e
   cases e2:SetTable.layClean (SetTable.sizeAbove n - 1) (es.map (·.1)) with
   | none=>rw[e2] at e;cases e
   | some owner=>
    rw[e2] at e
    cases e
    exact⟨Z79 _ _,rfl,h.led⟩
  ·exact Rj h _
end SW
namespace SW
open PySem PyProof.Rows
section
variable{M:Model}{prog:Program}{w:World}{A:Around}{E:Value→Shared→Prop}{s:Shared}
theorem Rq{α:Type}:∀(xs:List α) (i:Nat) (h:i<xs.length),(xs[i]::xs.eraseIdx i).Perm xs
 | x::xs,0,_=>List.Perm.refl _
 | x::xs,i+1,h=>by
  have:=Rq xs i (by simpa using h)
  exact(List.Perm.swap _ _ _).trans (this.cons x)
theorem Cf{src:Source}{n:Nat}{Q:Nat→Shared→Prop}(hn:n≠0)(h:∀i d,i<n→Q i {s with drawn:=d}):wpAny M A (choose src n) Q E s:=
 fun Γ p hΓ=>⟨hn,h _ _ (Nat.mod_lt _ (Nat.pos_of_ne_zero hn))⟩
theorem E3{α:Type}:∀(n:Nat) (xs:List α) (s:Shared) (Q:List α→Shared→Prop),xs.length=n→(∀ys d,ys.Perm xs→Q ys {s with drawn:=d})→wpAny M A (drawOrder n xs) Q E s
 | 0,xs,s,Q,e,h=>by
  cases List.length_eq_zero_iff.mp e
  unfold drawOrder
  exact wpAny_pure (h [] s.drawn (List.Perm.refl _))
 | n+1,[],s,Q,e,h=>by cases e
 | n+1,x::xs,s,Q,e,h=>by
  unfold drawOrder
  refine wpAny_bind (Cf (by simp) fun i d hi=>?_)
  rw[List.getElem?_eq_getElem hi]
  dsimp only
  refine wpAny_bind (E3 n _ _ _ ?_ fun ys d2 hp=>wpAny_pure (h _ d2 ?_))
  ·rw[List.length_eraseIdx,if_pos hi];omega
  ·exact(hp.cons _).trans (Rq (x::xs) i hi)
inductive KeysOf {K:Type} [DecidableEq K] (knd:KeyKind prog w K):List K→List (Int×Value)→Prop
 | nil:KeysOf knd [] []
 | cons {k:K} {e:Int×Value} {ks:List K} {l:List (Int×Value)} (h:knd.is k e.2=true) (r:KeysOf knd ks l):KeysOf knd (k::ks) (e::l)
variable{K:Type}[DecidableEq K]{knd:KeyKind prog w K}
theorem KeysOf.len{ks:List K}{l:List (Int×Value)}(h:KeysOf knd ks l):ks.length=l.length:=by
 induction h with
 | nil=>rfl
 | cons _ _ ih=>rw[List.length_cons,List.length_cons,ih]
theorem KeysOf.mem{ks:List K}{l:List (Int×Value)}(h:KeysOf knd ks l){k:K}:k∈ks↔∃e∈l,knd.is k e.2=true:=by
 induction h with
 | nil=>simp
 | cons h r ih=>
  rename_i k' e ks l
  rw[List.mem_cons,ih]
  constructor
  ·rintro(rfl | ⟨e,he,q⟩)
   ·exact⟨_,List.mem_cons_self,h⟩
   ·exact⟨e,List.mem_cons_of_mem _ he,q⟩
  ·rintro⟨e',he,q⟩
   rcases List.mem_cons.mp he with rfl | he
   ·exact .inl (knd.inj _ _ _ q h)
   ·exact .inr ⟨e',he,q⟩
theorem KeysOf.app{ks ks':List K}{l l':List (Int×Value)}(h:KeysOf knd ks l)(g:KeysOf knd ks' l'):KeysOf knd (ks++ks') (l++l'):=by
 induction h with
 | nil=>exact g
 | cons h _ ih=>exact .cons h ih
theorem KeysOf.perm{l l':List (Int×Value)}(p:l'.Perm l):∀{ks:List K},KeysOf knd ks l→∃ks',ks'.Perm ks∧KeysOf knd ks' l':=by
 induction p with
 | nil=>intro ks h;exact⟨ks,List.Perm.refl _,h⟩
 | cons x p ih=>
  intro ks h
  cases h with
  | cons h r=>
   obtain⟨ks',a,b⟩:=ih r
   exact⟨_,a.cons _,.cons h b⟩
 | swap x y l=>
  intro ks h
  cases h with
  | cons h r=>
   cases r with
   | cons h2 r=>exact⟨_,List.Perm.swap _ _ _,.cons h2 (.cons h r)⟩
 | trans p q ih1 ih2=>
  intro ks h
  obtain⟨k1,a1,b1⟩:=ih2 h
  obtain⟨k2,a2,b2⟩:=ih1 b1
  exact⟨k2,a2.trans a1,b2⟩
structure SetO(knd:KeyKind prog w K)(led:Bool)(o:Obj)(ks:List K):Prop where
 ex:o.ExactSet
 dat:∃es ep t,o.data= .set es ep t∧ElemsOf knd es.toList∧KeysOf knd ks es.toList∧t.fits es.size=true∧TOk t led
 nd:ks.Nodup
 sm:ks.length<scanBound
theorem Zc0{t:SetTable}{led:Bool}(h:TOk t led):TOk {t with plain:=false} led:=⟨h.rise,h.dum,h.led⟩
theorem Zk3{led:Bool}{a:Addr}{o:Obj}{k:K}{x:Value}{ks:List K}{Q:Bool→Shared→Prop}(hk:knd.is k x=true)(hx:x.scannable=true)(ho:s.heap.get? a=some o)(hS:SetO knd led o ks)(hr:ks.length+1<scanBound)
  (h:∀b h' o' ks',Heap.SameBut a s.heap h'→h'.get? a=some o'→SetO knd led o' ks'→(k∈ks→ks'=ks)→(k∉ks→ks'.Perm (ks++[k]))→Q b {s with heap:=h'}):
  wpAny (model prog w) A (setAddHashed a x (knd.hash k)) Q E s:=by
 obtain⟨es,ep,t,hd,he,hks,hf,ht⟩:=hS.dat
 have hlen:=hks.len
 have hl2:es.toList.length=es.size:=Array.length_toList
 have hsm:=hS.sm
 unfold setAddHashed setAddHashedIn
 refine wpAny_holding (wpAny_bind (wpAny_setState_of ho hd hf ?_))
 dsimp only
 rw[byScan_of hx (by omega) he,if_pos rfl]
 unfold setAddByScan
 refine wpAny_bind (wpAny_bind (wpAny_rule (wpAny_bind (wpAny_setScan_of hk ho hd hf he ?_))))
 cases hfd:es.toList.findIdx? (fun e=>knd.is k e.2) with
 | some j=>
  obtain⟨hj,hpj,_⟩:=List.findIdx?_eq_some_iff_getElem.mp hfd
  have hin:k∈ks:=hks.mem.mpr ⟨_,List.getElem_mem hj,hpj⟩
  dsimp only
  refine wpAny_pure (wpAny_pure ?_)
  have:=h false s.heap o ks (Heap.SameBut.refl a s.heap) ho hS (fun _=>rfl) (fun z=>absurd hin z)
  exact this
 | none=>
  have hout:k∉ks:=fun z=>by
   obtain⟨e,h1,h2⟩:=hks.mem.mp z
   have:=List.findIdx?_eq_none_iff.mp hfd e h1
   rw[h2] at this
   cases this
  dsimp only
  have gv:∀(b:Bool) {s1:Shared} {R:Unit→Shared→Prop},R () s1→wpAny (model prog w) A (match b with | true=>rule "set.scan.the-table-gave-way" | false=>pure ()) R E s1:=by
   intro b s1 R q
   cases b
   ·exact wpAny_pure q
   ·exact wpAny_rule q
  have p1:=layNew_perm t es (knd.hash k) x
  have f1:=layNew_fits t es (knd.hash k) x
  have t1:=Zu0 ht es (knd.hash k) x
  generalize layNew t es (knd.hash k) x=L at p1 f1 t1 ⊢
  obtain⟨es1,t2,wd,gave⟩:=L
  dsimp only at p1 f1 t1 ⊢
  rw[Array.toList_push] at p1
  have el1:ElemsOf knd es1.toList:=(he.push hk hx).perm p1
  obtain⟨k1,kp1,ko1⟩:=KeysOf.perm p1 (hks.app (.cons (e:=(knd.hash k,x)) hk .nil))
  have nd1:k1.Nodup:=kp1.nodup_iff.mpr (List.nodup_append.mpr ⟨hS.nd,by simp,fun a ha b hb=>by simp at hb;subst hb;rintro rfl;exact hout ha⟩)
  have ln1:k1.length=ks.length+1:=by rw[kp1.length_eq,List.length_append];rfl
  have sz1:es1.size=k1.length:=by rw[←Array.length_toList,ko1.len]
  refine wpAny_bind (gv _ ?_)
  have key:∀(t3:SetTable),t3.fits es1.size=true→TOk t3 led→wpAny (model prog w) A (do
    storeSet a es1 t3
    if (!wd&&t3.tooFull)=true then do
      (match (relayAll t3 es1 (SetTable.grown es1.size)).2.2 with | true=>rule "set.scan.the-table-gave-way" | false=>pure ())
      storeSet a (relayAll t3 es1 (SetTable.grown es1.size)).1 (relayAll t3 es1 (SetTable.grown es1.size)).2.1
      pure (some true)
     else pure (some true)) (fun r s'=>∃h' o' ks',r=some true∧s'={s with heap:=h'}∧Heap.SameBut a s.heap h'∧h'.get? a=some o'∧SetO knd led o' ks'∧ks'.Perm (ks++[k])) E s:=by
   intro t3 f3 ok3
   have fit1:es1.size≤sizeLine:=fits_of_scanBound (by omega)
   refine wpAny_bind (wpAny_storeSet_of ho hd ?_ fit1)
   have g1:(s.heap.update a (Obj.putSet es1 t3)).get? a=some {o with data:= .set es1 (ep+1) t3}:=by
    have:=Heap.get?_update_self (Obj.putSet es1 t3) ho (by rw[putSet_of es1 t3 hd];rfl)
    rw[putSet_of es1 t3 hd] at this
    exact this
   have o1:SetO knd led {o with data:= .set es1 (ep+1) t3} k1:=⟨hS.ex,⟨es1,_,t3,rfl,el1,ko1,f3,ok3⟩,nd1,by omega⟩
   have sb1:=Heap.SameBut.update s.heap a (Obj.putSet es1 t3)
   split
   ·have p2:=relayAll_perm t3 es1 (SetTable.grown es1.size)
    have f2:=relayAll_fits t3 es1 (SetTable.grown es1.size)
    have ok2:=Zc5 ok3 es1 (SetTable.grown es1.size)
    generalize relayAll t3 es1 (SetTable.grown es1.size)=L at p2 f2 ok2 ⊢
    obtain⟨es2,t4,gv2⟩:=L
    dsimp only at p2 f2 ok2 ⊢
    obtain⟨k2,kp2,ko2⟩:=KeysOf.perm p2 ko1
    have sz2:es2.size=es1.size:=by rw[←Array.length_toList,p2.length_eq,Array.length_toList]
    refine wpAny_bind (gv _ (wpAny_bind (wpAny_storeSet_of g1 rfl ?_ (by rw[sz2];exact fit1))))
    refine wpAny_pure ⟨_,_,k2,rfl,rfl,sb1.trans (Heap.SameBut.update _ a _),Heap.get?_update_self (Obj.putSet es2 t4) g1 rfl,?_,kp2.trans kp1⟩
    exact⟨hS.ex,⟨es2,_,t4,rfl,el1.perm p2,ko2,f2,ok2⟩,kp2.nodup_iff.mpr nd1,by rw[kp2.length_eq];omega⟩
   ·exact wpAny_pure ⟨_,_,k1,rfl,rfl,sb1,g1,o1,kp1⟩
  have fin:∀(t3:SetTable),t3.fits es1.size=true→TOk t3 led→wpAny (model prog w) A (do
    storeSet a es1 t3
    if (!wd&&t3.tooFull)=true then do
      (match (relayAll t3 es1 (SetTable.grown es1.size)).2.2 with | true=>rule "set.scan.the-table-gave-way" | false=>pure ())
      storeSet a (relayAll t3 es1 (SetTable.grown es1.size)).1 (relayAll t3 es1 (SetTable.grown es1.size)).2.1
      pure (some true)
     else pure (some true)) (fun r s'=>wpAny (model prog w) A (match r with | some added=>pure added | none=>setAddHashedIn a x (knd.hash k) 99999) Q E s') E s:=by
   intro t3 f3 ok3
   refine wpAny_mono (key t3 f3 ok3) ?_ fun _ _ z=>z
   rintro r s' ⟨h',o',ks',rfl,rfl,sb,g,so,p⟩
   exact wpAny_pure (h true h' o' ks' sb g so (fun z=>absurd z hout) fun _=>p)
  split
  ·refine wpAny_bind ?_
   rw[hashByValue_scannable 8 hx]
   refine wpAny_pure ?_
   split
   ·exact fin _ f1 t1
   ·exact fin _ (SetTable.fits_plain_off f1) (Zc0 t1)
  ·refine wpAny_bind (wpAny_pure ?_)
   rw[if_pos rfl]
   exact fin _ f1 t1
end
noncomputable def Qe(w:World):Bool:= !w.params.followText "set-order"
section
variable{prog:Program}{w:World}{A:Around}{E:Value→Shared→Prop}{s:Shared}
section
variable{K:Type}[DecidableEq K]{knd:KeyKind prog w K}{R:Result→Shared→Prop}{I:Addr}{fp wr:List Addr}{G:Array GenState→Array GenState→Prop}{n:Nat}{P:Nat→Value→Prop}{St:Nat→Shared→Prop}
theorem Z91{led:Bool}(W:WalksS prog w A.in1 I fp wr G n P St)(S:Addr)(hSf:S∉fp)(key:Nat→K)(hkey:∀i v,P i v→knd.is (key i) v=true∧v.scannable=true)(hb:n+1<scanBound):
  ∀(m i:Nat) (s:Shared) (o:Obj) (ks:List K),n - i=m→i≤n→St i s→s.heap.get? S=some o→SetO knd led o ks→ks.length≤i→(∀k,k∈ks↔∃j,j<i∧key j=k)→
  (∀s' o' ks',Moved (S::wr) G s s'→s'.heap.get? S=some o'→SetO knd led o' ks'→ks'.length≤n→(∀k,k∈ks'↔∃j,j<n∧key j=k)→R (.ok (.ret .none)) s')→
  codeAny (model prog w) A (.builtin "set.update.loop" ⟨[.ref S,.ref I],[]⟩) R s:=by
 have hSw:S∉wr:=fun z=>hSf (W.sub _ z)
 have hs2:∀b∈wr,b∈S::wr:=fun b z=>List.mem_cons_of_mem _ z
 intro m
 induction m with
 | zero=>
  intro i s o ks hm hi st ho hS hl hmem q
  obtain rfl:i=n:=by omega
  refine codeAny_builtin F.entry_set_update_loop ?_
  rw[Around.under_plainId F.plain_set_update_loop _]
  show wpAny _ A.in1 (pyNext (.ref I) >>=_) _ _ s
  refine wpAny_bind (W.done s _ _ st fun s' mv=>wpAny_pure ?_)
  exact q s' o ks (mv.mono hs2) (mv.heap S _ hSw ho) hS hl hmem
 | succ m ih=>
  intro i s o ks hm hi st ho hS hl hmem q
  have hlt:i<n:=by omega
  refine codeAny_builtin F.entry_set_update_loop ?_
  rw[Around.under_plainId F.plain_set_update_loop _]
  show wpAny _ A.in1 (pyNext (.ref I) >>=_) _ _ s
  refine wpAny_bind (W.item i s _ _ hlt st fun v s' hP st' mv=>?_)
  obtain⟨hk,hx⟩:=hkey i v hP
  show wpAny _ A.in1 (holding [v] (setAdd S v) >>=_) _ _ s'
  refine wpAny_bind (wpAny_holding ?_)
  unfold setAdd
  refine wpAny_holding (wpAny_bind (knd.pyHash hk ?_))
  refine Zk3 (s:={s' with toks:=s'.toks+1}) hk hx (mv.heap S _ hSw ho) hS (by omega) fun b h' o' ks' sb ho' hS' c1 c2=>?_
  have hmem':∀k,k∈ks'↔∃j,j<i+1∧key j=k:=by
   intro k
   have e:(∃j,j<i+1∧key j=k)↔(∃j,j<i∧key j=k)∨key i=k:=by
    constructor
    ·rintro⟨j,h1,h2⟩
     by_cases h3:j=i
     ·subst h3;exact .inr h2
     ·exact .inl ⟨j,by omega,h2⟩
    ·rintro(⟨j,h1,h2⟩ | h2)
     ·exact⟨j,by omega,h2⟩
     ·exact⟨i,by omega,h2⟩
   rw[e,←hmem k]
   by_cases hin:key i∈ks
   ·rw[c1 hin]
    constructor
    ·exact .inl
    ·rintro(z | rfl)
     ·exact z
     ·exact hin
   ·rw[(c2 hin).mem_iff,List.mem_append,List.mem_singleton]
    constructor
    ·rintro(z | rfl)
     ·exact .inl z
     ·exact .inr rfl
    ·rintro(z | rfl)
     ·exact .inl z
     ·exact .inr rfl
  have hl':ks'.length≤i+1:=by
   by_cases hin:key i∈ks
   ·rw[c1 hin];omega
   ·rw[(c2 hin).length_eq,List.length_append,List.length_singleton];omega
  refine wpAny_pure ⟨plainId_quiet F.plain_set_update_loop _,ih (i+1) _ o' ks' (by omega) hlt (W.frame _ s' _ _ st' (Nat.le_succ _) fun b' hb' o2 e=>?_) ho' hS' hl' hmem' fun s2 o2 ks2 mv2 ho2 hS2 l2 m2=>?_⟩
  ·rw[sb.2 b' (fun z:b'=S=>hSf (by rw[←z];exact hb'))];exact e
  ·refine q s2 o2 ks2 (Moved.trans W.gtrans ((mv.mono hs2).then_heap (Nat.le_succ _) fun b' o3 hb' e=>?_) mv2) ho2 hS2 l2 m2
   rw[sb.2 b' (fun z:b'=S=>hb' (by rw[z];exact List.mem_cons_self))];exact e
end
noncomputable def newO(w:World):Obj:={cls:= .type "set",dict:=none,data:= .set #[] 0 (.fresh 0 0 (Qe w))}
theorem Zn5{K:Type}[DecidableEq K]{knd:KeyKind prog w K}:SetO knd (Qe w) (newO w) []:=
 ⟨⟨rfl,rfl,rfl⟩,⟨#[],0,_,rfl,fun e he=>by simp at he,.nil,rfl,⟨fun i k _ h=>by simp[SetTable.fresh] at h,rfl,rfl⟩⟩,List.nodup_nil,by show 0<scanBound;decide⟩
theorem Zg7(a:Value){Q:Value→Shared→Prop}(h:Q (.ref s.heap.objs.size) {s with heap:=s.heap.push (newO w)}):
  codeAny (model prog w) A (.call (.builtin "set.__new__") ⟨[.type "set",a],[]⟩) (wants Q E) s:=by
 refine codeAny_of_tree ?_
 show wpAny _ A.in1 (checkBuiltinCall "set.__new__" ⟨[.type "set",a],[]⟩ >>=fun _=>again (.builtin "set.__new__" ⟨[.type "set",a],[]⟩)) _ _ s
 refine wpAny_bind (wpAny_of_eq (F.newCall_set_1 a) (wpAny_pure ⟨plainId_quiet F.plain_set_new _,codeAny_builtin F.entry_set_new ?_⟩))
 rw[Around.under_plainId F.plain_set_new _]
 unfold Builtin.«set.__new__» Builtin.Frozenset.newClass
 have sub0:=sub_set_self
 obtain⟨hp,g,d,tk,os⟩:=s
 dsimp only
 wp_walk
 refine wpAny_askSetting (wpAny_pure ?_)
 simp only[newObj]
 exact wpAny_bind (wpAny_alloc (wpAny_pure (wpAny_pure h)))
end
section
variable{prog:Program}{w:World}{A:Around}{E:Value→Shared→Prop}{s:Shared}{K:Type}[DecidableEq K]{knd:KeyKind prog w K}
set_option maxHeartbeats 3200000 in
theorem Zb6{l:Addr}{its:Array Value}{key:Nat→K}{Q:Value→Shared→Prop}(hh:A.handled=none)(hl:s.heap.IsList l its)(hkey:∀i v,its[i]?=some v→knd.is (key i) v=true∧v.scannable=true)(hb:its.size+1<scanBound)
  (h:∀h' tk o ks,h'.get? s.heap.objs.size=some o→SetO knd (Qe w) o ks→ks.length≤its.size→(∀k,k∈ks↔∃j,j<its.size∧key j=k)→(∀b o,b<s.heap.objs.size→s.heap.get? b=some o→h'.get? b=some o)→Q (.ref s.heap.objs.size) {s with heap:=h',toks:=tk}):
  wpAny (model prog w) A (call (.type "set") [.ref l]) Q E s:=by
 obtain⟨c0,tl,mro0⟩:=F.called_set.mro
 have made0:=F.called_set.made
 have sub0:=F.called_set.sub
 have nt0:=F.called_set.notType
 have cc0:=F.called_set.canCreate
 have ct0:=F.typeCall_set_1 (.ref l)
 refine wpAny_call (codeAny_of_tree ?_)
 show wpAny _ _ (callAny (.type "set") _) _ _ _
 refine wpAny_pure ⟨Code.quiet_builtin _ (by decide+kernel),codeAny_builtin F.entry_type_call ?_⟩
 rw[Around.under_plain (weight_type_call_type "set" [.ref l] []) rfl]
 repeat (any_goals (first | assumption | wp_step))
 have hnew:=Zg7 (prog:=prog) (w:=w) (A:=A.in1) (s:=s) (E:=E) (.ref l) (Q:=fun v s1=>v= .ref s.heap.objs.size∧s1={s with heap:=s.heap.push (newO w)}) ⟨rfl,rfl⟩
 refine codeAny_mono hnew fun r s1 hr=>?_
 cases r with
 | error e=>exact hr
 | ok fl=>
 cases fl with
 | ret v=>
  obtain⟨rfl,rfl⟩:=hr
  have g0:(s.heap.push (newO w)).get? s.heap.objs.size=some (newO w):=Heap.get?_push_size _ rfl
  have ty0:Shared.TypeIs {s with heap:=s.heap.push (newO w)} (.ref s.heap.objs.size) "set":=⟨_,g0,rfl⟩
  have li0:=F.called_set.init.lookup
  have bi0:=F.called_set.init.bind (.ref s.heap.objs.size)
  repeat (any_goals (first | assumption | wp_step))
  have want:∀s2:Shared,(∃h' tk o ks,s2={s with heap:=h',toks:=tk}∧h'.get? s.heap.objs.size=some o∧SetO knd (Qe w) o ks∧ks.length≤its.size∧(∀k,k∈ks↔∃j,j<its.size∧key j=k)∧(∀b o,b<s.heap.objs.size→s.heap.get? b=some o→h'.get? b=some o))→Q (.ref s.heap.objs.size) s2:=by
   rintro s2 ⟨h',tk,o,ks,rfl,a1,a2,a0,a3,a4⟩
   exact h h' tk o ks a1 a2 a0 a3 a4
  clear h
  refine codeAny_mono (codeAny_call_builtin (R:=wants (fun r s2=>r= .none∧∃h' tk o ks,s2={s with heap:=h',toks:=tk}∧h'.get? s.heap.objs.size=some o∧SetO knd (Qe w) o ks∧ks.length≤its.size∧(∀k,k∈ks↔∃j,j<its.size∧key j=k)∧(∀b o,b<s.heap.objs.size→s.heap.get? b=some o→h'.get? b=some o)) E) F.called_set.init.plain F.entry_set_init (check_set_init_1 ty0 ?_)) fun r2 s2 hr2=>?_
  ·obtain⟨⟨cl,di,da,sl⟩,ol,hcl,nl,hdl⟩:=hl
   simp only at hcl hdl
   subst hcl hdl
   have ol1:(s.heap.push (newO w)).get? l=some {cls:= .type "list",dict:=di,data:= .seq its nl,slots:=sl}:=Heap.get?_push_of_some _ ol
   have s1:=F.sub_list_set
   have s2:=F.sub_list_frozenset
   have s3:(Value.type "list"==Value.type "dict")=false:=by decide
   have il1:(s.heap.push (newO w)).IsList l its:=⟨_,ol1,rfl,nl,rfl⟩
   unfold Builtin.«set.__init__» noKeywords Builtin.Frozenset.updateFrom
   generalize hPI:pyIter=PI
   wp_walk
   subst hPI
   refine wpAny_pyIter_list il1 (wpAny_bind (wpAny_runValue ?_))
   have lS:l<s.heap.objs.size:=Heap.lt_size ol
   have nI:l≠(s.heap.push (newO w)).objs.size:=by rw[Heap.size_push];exact Nat.ne_of_lt (Nat.lt_succ_of_lt lS)
   have nS:s.heap.objs.size∉[(s.heap.push (newO w)).objs.size,l]:=by
    rw[Heap.size_push,List.mem_cons,List.mem_singleton]
    exact fun z=>z.elim (Nat.ne_of_lt (Nat.lt_succ_self _)) (Nat.ne_of_gt lS)
   refine Z91 (knd:=knd) (led:=Qe w) ((Walks.list (by simp[hh]) _ l nI its).toS) s.heap.objs.size nS key hkey hb _ 0 _ (newO w) [] rfl (Nat.zero_le _) ⟨⟨_,Heap.get?_push_size _ rfl,rfl,rfl⟩,il1.push _⟩ (Heap.get?_push_of_some _ g0) Zn5 (Nat.zero_le _) (fun k=>by simp) ?_
   intro s' o' ks' mv ho' hS' hl' hm'
   obtain⟨h',g',d',tk',os'⟩:=s'
   cases mv.gens
   cases mv.drawn
   cases mv.os
   refine wpAny_pure ?_
   refine wpAny_pure ⟨rfl,h',tk',o',ks',rfl,ho',hS',hl',hm',fun b o hb e=>?_⟩
   refine mv.heap b o ?_ (Heap.get?_push_of_some _ (Heap.get?_push_of_some _ e))
   rw[List.mem_cons,List.mem_singleton,Heap.size_push]
   exact fun z=>z.elim (Nat.ne_of_lt hb) (Nat.ne_of_lt (Nat.lt_succ_of_lt hb))
  ·cases r2 with
   | error e=>exact hr2
   | ok fl2=>
    cases fl2 with
    | ret r=>
     obtain⟨rfl,hw⟩:=hr2
     repeat (any_goals (first | assumption | wp_step))
     exact want _ hw
    | _=>exact hr2.elim
 | _=>exact hr.elim
end
theorem Xv:Slot "set_iterator" "__next__" "set_iterator.__next__":=by
 refine .of (owner:="set_iterator") (n:="__next__") ?_ ?_ ?_ ?_ ?_ ?_
 ·rw[typeLookup_type,builtinLookup_eq_fast];kernel_rfl
 all_goals first | decide+kernel | exact .inl (by decide+kernel) | exact .inr (by decide+kernel) | (rw[isSubtype_type];kernel_rfl)
theorem Rb:entryFor table "set_iterator.__next__"=some Builtin.«set_iterator.__next__»:=entryFor_of_tree (by kernel_rfl)
theorem Fs:Manifest.owners.lookup (String.ofList ['r','o','t','a','r','e','t','i','_','t','e','s'].reverse)=some Manifest.sig_set_iterator:=by kernel_rfl
theorem Ow(a:Value):argsOk "set_iterator.__next__" ⟨[a],[]⟩:=by
 unfold argsOk
 rw[signature?_of (id:="set_iterator.__next__") (n:=['_','_','t','x','e','n','_','_']) (o:=['r','o','t','a','r','e','t','i','_','t','e','s']) (by kernel_rfl) Fs]
 kernel_rfl
theorem Zm1:entryFor table "set.__iter__"=some Builtin.«frozenset.__iter__»:=entryFor_alias (id':="frozenset.__iter__") (by kernel_rfl) rfl (by decide+kernel) (by kernel_rfl)
section
variable{prog:Program}{w:World}{A:Around}{E:Value→Shared→Prop}{s:Shared}
noncomputable abbrev itO(f:Value)(i:Nat)(a:Addr)(n ep:Nat):Obj:={cls:= .type "set_iterator",dict:=none,data:= .fields #[f,rawInt i,.ref a,rawInt n,rawInt ep],slots:=#[]}
section
variable{a I:Addr}{o:Obj}{es:Array (Int×Value)}{ep:Nat}{t:SetTable}
theorem Ja{slot i:Nat}{Q:Option (Value×Nat)→Shared→Prop}(ho:s.heap.get? a=some o)(hd:o.data= .set es ep t)(hf:t.fits es.size=true)(ht:w.params.followText "set-order"=true)
  (h:Q (((pickOrder (w.params.setOrder a ep) es)[i]?).map fun e=>(e.2,slot)) s):wpAny (model prog w) A (setNext a slot i ep) Q E s:=by
 unfold setNext
 refine wpAny_bind (wpAny_setState_of ho hd hf ?_)
 dsimp only
 unfold setsByText
 refine wpAny_bind (wpAny_bind (wpAny_askSetting (wpAny_pure ?_)))
 show wpAny _ _ (if w.params.followText "set-order"=true then _ else _) _ _ _
 rw[if_pos ht,if_neg (by simp)]
 refine wpAny_bind ?_
 unfold setWalk
 refine wpAny_bind (wpAny_setState_of ho hd hf ?_)
 dsimp only
 unfold setsByText
 refine wpAny_bind (wpAny_bind (wpAny_askSetting (wpAny_pure ?_)))
 show wpAny _ _ (if w.params.followText "set-order"=true then _ else _) _ _ _
 rw[if_pos ht]
 refine wpAny_bind (wpAny_askSetting (wpAny_pure (wpAny_pure h)))
theorem Ql{slot i:Nat}{Q:Option (Value×Nat)→Shared→Prop}(ho:s.heap.get? a=some o)(hd:o.data= .set es ep t)(hf:t.fits es.size=true)(ht:w.params.followText "set-order"=false)
  (hp:(!t.plain&&decide (es.size >1))=false) (hl:t.led=true)
  (h:Q (match es[SetTable.below t.place slot]?,t.place[SetTable.below t.place slot]? with | some (_,x),some j=>some (x,j+1) | _,_=>none) s):wpAny (model prog w) A (setNext a slot i ep) Q E s:=by
 unfold setNext
 refine wpAny_bind (wpAny_setState_of ho hd hf ?_)
 dsimp only
 unfold setsByText
 refine wpAny_bind (wpAny_bind (wpAny_askSetting (wpAny_pure ?_)))
 show wpAny _ _ (if w.params.followText "set-order"=true then _ else _) _ _ _
 rw[if_neg (by rw[ht];exact Bool.false_ne_true)]
 show wpAny _ _ (if (!t.plain&&decide (es.size >1))=true then _ else _) _ _ _
 rw[if_neg (by rw[hp];exact Bool.false_ne_true)]
 refine wpAny_bind ?_
 show wpAny _ _ (if (!t.led&&!es.isEmpty)=true then _ else _) _ _ _
 rw[if_neg (by rw[hl];exact Bool.false_ne_true)]
 exact wpAny_pure (wpAny_pure h)
theorem Ca{place:Nat}{x:Int×Value}{Q:Value→Shared→Prop}(ho:s.heap.get? a=some o)(hd:o.data= .set es ep t)(hf:t.fits es.size=true)(hx:es[place]?=some x)(h:Q x.2 s):wpAny (model prog w) A (setNextDrawn a place ep) Q E s:=by
 unfold setNextDrawn
 refine wpAny_bind (wpAny_setState_of ho hd hf ?_)
 dsimp only
 rw[if_neg (by simp),hx]
 exact wpAny_pure h
theorem Fj{slot i nx:Nat}{x:Value}{Q:Option Value→Shared→Prop}(hI:s.heap.get? I=some (itO (rawInt slot) i a es.size ep))(ho:s.heap.get? a=some o)(hd:o.data= .set es ep t)(hf:t.fits es.size=true)
  (hn:∀(E':Value→Shared→Prop) (R:Option (Value×Nat)→Shared→Prop),R (some (x,nx)) s→wpAny (model prog w) A.in1 (setNext a slot i ep) R E' s)
  (h:∀h',h'.get? I=some (itO (rawInt nx) (i+1) a es.size ep)→Heap.SameBut I s.heap h'→Q (some x) {s with heap:=h'}):wpAny (model prog w) A (pyNext (.ref I)) Q E s:=by
 have hT:s.TypeIs (.ref I) "set_iterator":=⟨_,hI,rfl⟩
 unfold pyNext
 refine wpAny_bind (wpAny_attempt (wpAny_callSpecial?_slot (name:=Str.ofString "__next__") hT Xv (wpAny_call_entry Xv hT Rb ?_ (Ow _))))
 unfold Builtin.«set_iterator.__next__»
 refine wpAny_bind (wpAny_pure ?_)
 refine wpAny_bind (wpAny_fieldsOf hI rfl ?_)
 show wpAny _ _ (setEntries a >>=_) _ _ _
 refine wpAny_bind (wpAny_setEntries_of ho hd hf ?_)
 rw[if_neg (by simp[rawInt])]
 show wpAny _ _ (setNext a (Int.toNat (slot:Int)) (Int.toNat (i:Int)) (Int.toNat (ep:Int)) >>=_) _ _ _
 rw[Int.toNat_natCast,Int.toNat_natCast,Int.toNat_natCast]
 refine wpAny_bind (hn _ _ ?_)
 dsimp only
 refine wpAny_bind (wpAny_setField_rec hI (by simp) fun h1 g1 s1=>?_)
 refine wpAny_bind (wpAny_setField_rec g1 (by simp) fun h2 g2 s2=>?_)
 exact wpAny_pure ⟨_,rfl,wpAny_pure (h h2 g2 (s1.trans s2))⟩
theorem Zx9{T:Addr}{oT:Obj}{pl:Array Value}{n:Nat}{Q:Option (Array Value)→Shared→Prop}(hoT:s.heap.get? T=some oT)(hdT:oT.data= .seq pl n)(h:Q (some pl) s):wpAny (model prog w) A (seqItems? (.ref T)) Q E s:=by
 unfold seqItems?
 refine wpAny_bind (wpAny_load hoT ?_)
 rw[hdT]
 exact wpAny_pure h
theorem N4{Q:Fin→Shared→Prop}{R:Value→Shared→Prop}(hh:A.handled=none)(h:∀h' e,(∀b u,s.heap.get? b=some u→h'.get? b=some u)→(∃u,h'.get? e=some u∧u.cls= .type "StopIteration")→R (.ref e) {s with heap:=h'}):wpAny (model prog w) A (newExc (.type "StopIteration") [] >>=fun e=>(raiseNew e:Sem Fin)) Q R s:=by
 refine wpAny_bind ?_
 simp only[newExc,newTuple]
 refine wpAny_bind (wpAny_newObj_type ?_ (by size_fits))
 refine wpAny_bind (m:=firstArgMember _ _) (wpAny_of_eq (a:=Value.none) (by first | rfl | (simp only[firstArgMember];rfl)) ?_)
 refine wpAny_newObj_type ?_ (by size_fits)
 simp only[raiseNew]
 refine wpAny_bind (wpAny_handled ?_)
 rw[hh]
 refine wpAny_bind (wpAny_pure (wpAny_throw ?_))
 exact h _ _ (fun b u q=>Heap.get?_push_of_some _ (Heap.get?_push_of_some _ q)) ⟨_,Heap.get?_push_size _ rfl,rfl⟩
theorem Z61{slot i:Nat}{Q:Option Value→Shared→Prop}(hh:A.handled=none)(hI:s.heap.get? I=some (itO (rawInt slot) i a es.size ep))(ho:s.heap.get? a=some o)(hd:o.data= .set es ep t)(hf:t.fits es.size=true)
  (hn:∀(E':Value→Shared→Prop) (R:Option (Value×Nat)→Shared→Prop),R none s→wpAny (model prog w) A.in1 (setNext a slot i ep) R E' s)
  (h:∀h',Heap.ExtBut I s.heap h'→Q none {s with heap:=h'}):wpAny (model prog w) A (pyNext (.ref I)) Q E s:=by
 have hT:s.TypeIs (.ref I) "set_iterator":=⟨_,hI,rfl⟩
 unfold pyNext
 refine wpAny_bind (wpAny_attempt (wpAny_callSpecial?_slot (name:=Str.ofString "__next__") hT Xv (wpAny_call_entry Xv hT Rb ?_ (Ow _))))
 unfold Builtin.«set_iterator.__next__»
 refine wpAny_bind (wpAny_pure ?_)
 refine wpAny_bind (wpAny_fieldsOf hI rfl ?_)
 show wpAny _ _ (setEntries a >>=_) _ _ _
 refine wpAny_bind (wpAny_setEntries_of ho hd hf ?_)
 rw[if_neg (by simp[rawInt])]
 show wpAny _ _ (setNext a (Int.toNat (slot:Int)) (Int.toNat (i:Int)) (Int.toNat (ep:Int)) >>=_) _ _ _
 rw[Int.toNat_natCast,Int.toNat_natCast,Int.toNat_natCast]
 refine wpAny_bind (hn _ _ ?_)
 dsimp only
 refine wpAny_bind (wpAny_setField_rec hI (by simp) fun h1 g1 s1=>?_)
 refine N4 (A:=A.in1) hh fun h2 e k2 he=>?_
 obtain⟨u,hu,hc⟩:=he
 refine wpAny_bind (wpAny_isInstance (T:="StopIteration") (b:=true) ⟨u,hu,hc⟩ isSubtype_stop ?_)
 exact wpAny_pure (h h2 fun b v hb q=>k2 _ _ (s1.extBut _ _ hb q))
theorem Zb8{T:Addr}{pl:Array Value}{i place:Nat}{x:Int×Value}{Q:Option Value→Shared→Prop}(hI:s.heap.get? I=some (itO (.ref T) i a es.size ep))(hT0:s.heap.IsTuple T pl)(ho:s.heap.get? a=some o)(hd:o.data= .set es ep t)(hf:t.fits es.size=true)
  (hp:pl[i]?=some (rawInt place)) (hx:es[place]?=some x)
  (h:∀h',h'.get? I=some (itO (.ref T) (i+1) a es.size ep)→Heap.SameBut I s.heap h'→Q (some x.2) {s with heap:=h'}):wpAny (model prog w) A (pyNext (.ref I)) Q E s:=by
 have hT:s.TypeIs (.ref I) "set_iterator":=⟨_,hI,rfl⟩
 obtain⟨oT,hoT,hcT,nT,hdT⟩:=hT0
 unfold pyNext
 refine wpAny_bind (wpAny_attempt (wpAny_callSpecial?_slot (name:=Str.ofString "__next__") hT Xv (wpAny_call_entry Xv hT Rb ?_ (Ow _))))
 unfold Builtin.«set_iterator.__next__»
 refine wpAny_bind (wpAny_pure ?_)
 refine wpAny_bind (wpAny_fieldsOf hI rfl ?_)
 show wpAny _ _ (setEntries a >>=_) _ _ _
 refine wpAny_bind (wpAny_setEntries_of ho hd hf ?_)
 rw[if_neg (by simp[rawInt])]
 show wpAny _ _ (seqItems? (.ref T) >>=_) _ _ _
 refine wpAny_bind (Zx9 hoT hdT ?_)
 dsimp only
 rw[Int.toNat_natCast,hp]
 show wpAny _ _ (setNextDrawn a (Int.toNat (place:Int)) (Int.toNat (ep:Int)) >>=_) _ _ _
 rw[Int.toNat_natCast,Int.toNat_natCast]
 refine wpAny_bind (Ca ho hd hf hx ?_)
 refine wpAny_bind (wpAny_setField_rec hI (by simp) fun h1 g1 s1=>?_)
 exact wpAny_pure ⟨_,rfl,wpAny_pure (h h1 g1 s1)⟩
theorem Zn8{T:Addr}{pl:Array Value}{i:Nat}{Q:Option Value→Shared→Prop}(hh:A.handled=none)(hI:s.heap.get? I=some (itO (.ref T) i a es.size ep))(hT0:s.heap.IsTuple T pl)(ho:s.heap.get? a=some o)(hd:o.data= .set es ep t)(hf:t.fits es.size=true)
  (hp:pl[i]?=none) (h:∀h',Heap.ExtBut I s.heap h'→Q none {s with heap:=h'}):wpAny (model prog w) A (pyNext (.ref I)) Q E s:=by
 have hT:s.TypeIs (.ref I) "set_iterator":=⟨_,hI,rfl⟩
 obtain⟨oT,hoT,hcT,nT,hdT⟩:=hT0
 unfold pyNext
 refine wpAny_bind (wpAny_attempt (wpAny_callSpecial?_slot (name:=Str.ofString "__next__") hT Xv (wpAny_call_entry Xv hT Rb ?_ (Ow _))))
 unfold Builtin.«set_iterator.__next__»
 refine wpAny_bind (wpAny_pure ?_)
 refine wpAny_bind (wpAny_fieldsOf hI rfl ?_)
 show wpAny _ _ (setEntries a >>=_) _ _ _
 refine wpAny_bind (wpAny_setEntries_of ho hd hf ?_)
 rw[if_neg (by simp[rawInt])]
 show wpAny _ _ (seqItems? (.ref T) >>=_) _ _ _
 refine wpAny_bind (Zx9 hoT hdT ?_)
 dsimp only
 rw[Int.toNat_natCast,hp]
 dsimp only
 refine wpAny_bind (wpAny_setField_rec hI (by simp) fun h1 g1 s1=>?_)
 refine wpAny_bind (wpAny_setField_rec g1 (by simp) fun h2 g2 s2=>?_)
 refine N4 (A:=A.in1) hh fun h3 e k3 he=>?_
 obtain⟨u,hu,hc⟩:=he
 refine wpAny_bind (wpAny_isInstance (T:="StopIteration") (b:=true) ⟨u,hu,hc⟩ isSubtype_stop ?_)
 exact wpAny_pure (h h3 fun b v hb q=>k3 _ _ (s2.extBut _ _ hb (s1.extBut _ _ hb q)))
end
end
theorem Z09{α:Type}(next:Nat→Nat):∀(fuel k:Nat) (left:List α) (out:Array α),left.length=fuel→(pickOrder.go next fuel k left out).toList.Perm (out.toList++left)
 | 0,k,left,out,e=>by
  cases List.length_eq_zero_iff.mp e
  unfold pickOrder.go
  rw[List.append_nil]
 | fuel+1,k,left,out,e=>by
  unfold pickOrder.go
  have hi:next k % left.length<left.length:=Nat.mod_lt _ (by omega)
  rw[List.getElem?_eq_getElem hi]
  dsimp only
  refine(Z09 next fuel (k+1) _ _ (by rw[List.length_eraseIdx,if_pos hi];omega)).trans ?_
  rw[Array.toList_push,List.append_assoc]
  exact(Rq left _ hi).append_left _
theorem Zd6{α:Type}(next:Nat→Nat)(xs:Array α):(pickOrder next xs).toList.Perm xs.toList:=by
 have:=Z09 next xs.size 0 xs.toList #[] (Array.length_toList)
 unfold pickOrder
 simpa using this
theorem Sn:Slot "set_iterator" "__iter__" "set_iterator.__iter__":=by
 refine .of (owner:="set_iterator") (n:="__iter__") ?_ ?_ ?_ ?_ ?_ ?_
 ·rw[typeLookup_type,builtinLookup_eq_fast];kernel_rfl
 all_goals first | decide+kernel | exact .inl (by decide+kernel) | exact .inr (by decide+kernel) | (rw[isSubtype_type];kernel_rfl)
theorem O4:entryFor table "set_iterator.__iter__"=some Builtin.«dict_keyiterator.__iter__»:=entryFor_alias (id':="dict_keyiterator.__iter__") (by kernel_rfl) rfl (by decide+kernel) (by kernel_rfl)
theorem J2(a:Value):argsOk "set_iterator.__iter__" ⟨[a],[]⟩:=by
 unfold argsOk
 rw[signature?_of (id:="set_iterator.__iter__") (n:=['_','_','r','e','t','i','_','_']) (o:=['r','o','t','a','r','e','t','i','_','t','e','s']) (by kernel_rfl) Fs]
 kernel_rfl
section
variable{prog:Program}{w:World}{A:Around}{E:Value→Shared→Prop}{s:Shared}
structure ItSt(w:World)(I a T:Addr)(o:Obj)(es:Array (Int×Value))(ep:Nat)(t:SetTable)(vs:List Value)(i:Nat)(h:Heap):Prop where
 set:h.get? a=some o
 md:(w.params.followText "set-order"=true∧vs=(pickOrder (w.params.setOrder a ep) es).toList.map (·.2)∧h.get? I=some (itO (rawInt 0) i a es.size ep))
  ∨(w.params.followText "set-order"=false∧(!t.plain&&decide (es.size >1))=false∧t.led=true∧Rise t.place∧vs=es.toList.map (·.2)∧∃slot,SetTable.below t.place slot=i∧h.get? I=some (itO (rawInt slot) i a es.size ep))
  ∨(∃pl:List Nat,h.IsTuple T (pl.map fun(k:Nat)=>rawInt k).toArray∧vs=pl.map (fun k=>(es.getD k (0,.none)).2)∧(∀k∈pl,k<es.size)∧h.get? I=some (itO (.ref T) i a es.size ep))
theorem Za4{I a T:Addr}{o:Obj}{es:Array (Int×Value)}{ep:Nat}{t:SetTable}{vs:List Value}(hh:A.handled=none)(na:a≠I)(nT:T≠I)(hd:o.data= .set es ep t)(hf:t.fits es.size=true):
  Walks prog w A I [I,a,T] [I] vs.length (fun i v=>vs[i]?=some v) (ItSt w I a T o es ep t vs) where
 sub:=fun b hb=>by simp at hb;simp[hb]
 frame:=fun i h h' st hk=>by
  refine⟨hk a (by simp) _ st.set,?_⟩
  rcases st.md with⟨h1,h2,h3⟩ | ⟨h1,h2,h3,h4,h5,slot,h6,h7⟩ | ⟨pl,⟨oT,q1,q2⟩,h2,h3,h4⟩
  ·exact .inl ⟨h1,h2,hk I (by simp) _ h3⟩
  ·exact .inr (.inl ⟨h1,h2,h3,h4,h5,slot,h6,hk I (by simp) _ h7⟩)
  ·exact .inr (.inr ⟨pl,⟨oT,hk T (by simp) _ q1,q2⟩,h2,h3,hk I (by simp) _ h4⟩)
 item:=fun i s Q E hi st hQ=>by
  have hfs:t.place.size=es.size:=by
   unfold SetTable.fits at hf
   simp only[Bool.and_eq_true,beq_iff_eq] at hf
   exact hf.1
  have stay:∀{h':Heap},Heap.SameBut I s.heap h'→h'.get? a=some o:=fun sb=>sb.extBut _ _ na st.set
  have old:∀{h':Heap},Heap.SameBut I s.heap h'→∀b u,b∉[I]→s.heap.get? b=some u→h'.get? b=some u:=fun sb b u hb e=>sb.extBut _ _ (by simpa using hb) e
  rcases st.md with⟨h1,h2,h3⟩ | ⟨h1,h2,h3,h4,h5,slot,h6,h7⟩ | ⟨pl,⟨oT,q1,q2⟩,h2,h3,h4⟩
  ·have hx:(pickOrder (w.params.setOrder a ep) es).toList[i]?=some ((pickOrder (w.params.setOrder a ep) es).toList[i]'(by rw[h2,List.length_map] at hi;exact hi)):=List.getElem?_eq_getElem _
   generalize (pickOrder (w.params.setOrder a ep) es).toList[i]'(by rw[h2,List.length_map] at hi;exact hi)=x at hx
   rw[Array.getElem?_toList] at hx
   refine Fj (x:=x.2) (nx:=0) h3 st.set hd hf (fun E' R q=>Ja st.set hd hf h1 (by rw[hx];exact q)) fun h' g sb=>?_
   refine hQ x.2 h' s.toks ?_ ⟨stay sb,.inl ⟨h1,h2,g⟩⟩ (old sb)
   rw[h2,List.getElem?_map,Array.getElem?_toList,hx];rfl
  ·have hi':i<es.size:=by rw[h5,List.length_map,Array.length_toList] at hi;exact hi
   have hx:es[i]?=some es[i]:=Array.getElem?_eq_getElem hi'
   have hp:t.place[i]?=some (t.place.getD i 0):=by rw[Array.getD_eq_getD_getElem?,Array.getElem?_eq_getElem (by omega)];rfl
   refine Fj (x:=es[i].2) (nx:=t.place.getD i 0+1) h7 st.set hd hf (fun E' R q=>Ql st.set hd hf h1 h2 h3 (by rw[h6,hx,hp];exact q)) fun h' g sb=>?_
   refine hQ es[i].2 h' s.toks ?_ ⟨stay sb,.inr (.inl ⟨h1,h2,h3,h4,h5,_,C0 h4 (by omega),g⟩)⟩ (old sb)
   rw[h5,List.getElem?_map,Array.getElem?_toList,hx];rfl
  ·have hi':i<pl.length:=by rw[h2,List.length_map] at hi;exact hi
   have hk:=h3 _ (List.getElem_mem hi')
   refine Zb8 (place:=pl[i]) (x:=es[pl[i]]) h4 ⟨oT,q1,q2⟩ st.set hd hf (by rw[List.getElem?_toArray,List.getElem?_map,List.getElem?_eq_getElem hi'];rfl) (Array.getElem?_eq_getElem hk) fun h' g sb=>?_
   refine hQ _ h' s.toks ?_ ⟨stay sb,.inr (.inr ⟨pl,⟨oT,sb.extBut _ _ nT q1,q2⟩,h2,h3,g⟩)⟩ (old sb)
   rw[h2,List.getElem?_map,List.getElem?_eq_getElem hi']
   show some (es.getD pl[i] _).2=_
   rw[Array.getD_eq_getD_getElem?,Array.getElem?_eq_getElem hk];rfl
 done:=fun s Q E st hQ=>by
  have hfs:t.place.size=es.size:=by
   unfold SetTable.fits at hf
   simp only[Bool.and_eq_true,beq_iff_eq] at hf
   exact hf.1
  have old:∀{h':Heap},Heap.ExtBut I s.heap h'→∀b u,b∉[I]→s.heap.get? b=some u→h'.get? b=some u:=fun sb b u hb e=>sb _ _ (by simpa using hb) e
  rcases st.md with⟨h1,h2,h3⟩ | ⟨h1,h2,h3,h4,h5,slot,h6,h7⟩ | ⟨pl,⟨oT,q1,q2⟩,h2,h3,h4⟩
  ·refine Z61 hh h3 st.set hd hf (fun E' R q=>Ja st.set hd hf h1 ?_) fun h' sb=>hQ h' s.toks (old sb)
   rw[←Array.getElem?_toList,List.getElem?_eq_none (by rw[h2,List.length_map];exact Nat.le_refl _)]
   exact q
  ·refine Z61 hh h7 st.set hd hf (fun E' R q=>Ql st.set hd hf h1 h2 h3 ?_) fun h' sb=>hQ h' s.toks (old sb)
   rw[h6,←Array.getElem?_toList,List.getElem?_eq_none (by rw[h5,List.length_map];exact Nat.le_refl _)]
   exact q
  ·refine Zn8 hh h4 ⟨oT,q1,q2⟩ st.set hd hf ?_ fun h' sb=>hQ h' s.toks (old sb)
   rw[List.getElem?_toArray,List.getElem?_eq_none (by rw[h2];simp)]
 self:=fun i s Q E st hQ=>by
  have hT:s.TypeIs (.ref I) "set_iterator":=by
   rcases st.md with⟨_,_,h3⟩ | ⟨_,_,_,_,_,_,_,h7⟩ | ⟨_,_,_,_,h4⟩
   ·exact⟨_,h3,rfl⟩
   ·exact⟨_,h7,rfl⟩
   ·exact⟨_,h4,rfl⟩
  refine wpAny_pyIter_slot hT Sn (wpAny_call_entry Sn hT O4 ?_ (J2 _))
  show wpAny _ _ (ret (.ref I)) _ _ s
  exact wpAny_pure ⟨_,rfl,"set_iterator",_,hT,Xv.lookup,hQ⟩
theorem Zx0{a:Addr}{o:Obj}{es:Array (Int×Value)}{ep:Nat}{t:SetTable}{Q:Value→Shared→Prop}(hc:o.cls= .type "set")(ho:s.heap.get? a=some o)(hd:o.data= .set es ep t)(hf:t.fits es.size=true)(ht:TOk t (Qe w))(hz:es.size≤sizeLine)
  (h:∀d h' I T vs,vs.Perm (es.toList.map (·.2))→ItSt w I a T o es ep t vs 0 h'→s.heap.objs.size≤I→a≠I→T≠I→(T=a∨s.heap.objs.size≤T)→(∀b u,s.heap.get? b=some u→h'.get? b=some u)→Q (.ref I) {s with heap:=h',drawn:=d}):
  wpAny (model prog w) A (pyIter (.ref a)) Q E s:=by
 have hT:s.TypeIs (.ref a) "set":=⟨o,ho,hc⟩
 have la:a<s.heap.objs.size:=Heap.lt_size ho
 refine wpAny_pyIter_slot hT F.slot_set_iter (wpAny_call_entry F.slot_set_iter hT Zm1 ?_ (F.args_set_iter_1 _))
 unfold Builtin.«frozenset.__iter__»
 refine wpAny_bind (wpAny_bind (wpAny_pure (wpAny_pure ?_)))
 refine wpAny_bind ?_
 unfold Builtin.Frozenset.sizeOf
 refine wpAny_bind (wpAny_setEntries_of ho hd hf (wpAny_pure ?_))
 refine wpAny_bind ?_
 unfold setDrawn
 refine wpAny_bind (wpAny_setState_of ho hd hf ?_)
 dsimp only
 unfold setsByText
 refine wpAny_bind (wpAny_bind (wpAny_askSetting (wpAny_pure ?_)))
 show wpAny _ _ (pure (!w.params.followText "set-order"&&(!t.plain&&decide (es.size >1)))) _ _ _
 refine wpAny_pure ?_
 have plainCase:(w.params.followText "set-order"=true∨(w.params.followText "set-order"=false∧(!t.plain&&decide (es.size >1))=false))→wpAny (model prog w) A.in1 (newFields "set_iterator" [rawInt 0,rawInt 0,.ref a,rawInt es.size,rawInt ep] >>=fun v=>ret v) (fun fin s'=>∃v,fin= .done (.ret v)∧∃T' r,s'.TypeIs v T'∧typeLookup (.type T') "__next__"=pure (some r)∧Q v s') E s:=by
  intro hm
  refine wpAny_bind ?_
  show wpAny _ _ (newObj (.type "set_iterator") (.fields #[rawInt 0,rawInt 0,.ref a,rawInt es.size,rawInt ep])) _ _ _
  refine wpAny_newObj_type (wpAny_pure ⟨_,rfl,"set_iterator",_,⟨_,Heap.get?_push_size _ rfl,rfl⟩,Xv.lookup,?_⟩)
  have g:(s.heap.push (itO (rawInt 0) 0 a es.size ep)).get? s.heap.objs.size=some (itO (rawInt 0) 0 a es.size ep):=Heap.get?_push_size _ rfl
  have g0:(s.heap.push (itO (rawInt 0) 0 a es.size ep)).get? a=some o:=Heap.get?_push_of_some _ ho
  have k:∀b u,s.heap.get? b=some u→(s.heap.push (itO (rawInt 0) 0 a es.size ep)).get? b=some u:=fun b u q=>Heap.get?_push_of_some _ q
  rcases hm with hm | ⟨hm,hp⟩
  ·exact h s.drawn _ s.heap.objs.size a _ ((Zd6 (w.params.setOrder a ep) es).map _) ⟨g0,.inl ⟨hm,rfl,g⟩⟩ (Nat.le_refl _) (Nat.ne_of_lt la) (Nat.ne_of_lt la) (.inl rfl) k
  ·exact h s.drawn _ s.heap.objs.size a _ (List.Perm.refl _) ⟨g0,.inr (.inl ⟨hm,hp,by rw[ht.led];unfold Qe;rw[hm];rfl,ht.rise,rfl,0,Ec ht.rise,g⟩)⟩ (Nat.le_refl _) (Nat.ne_of_lt la) (Nat.ne_of_lt la) (.inl rfl) k
 by_cases hm:w.params.followText "set-order"=true
 ·rw[hm]
  rw[if_neg (by simp)]
  refine wpAny_bind (wpAny_pure (wpAny_bind (wpAny_setEpoch_of ho hd hf ?_)))
  exact plainCase (.inl hm)
 ·have hm':w.params.followText "set-order"=false:=by cases e:w.params.followText "set-order" <;>simp_all
  rw[hm']
  cases hp:(!t.plain&&decide (es.size >1)) with
  | false=>
   rw[if_neg (by simp)]
   refine wpAny_bind (wpAny_pure (wpAny_bind (wpAny_setEpoch_of ho hd hf ?_)))
   exact plainCase (.inr ⟨hm',hp⟩)
  | true=>
   rw[if_pos (by rfl)]
   refine wpAny_bind (E3 _ _ _ _ (by simp) fun pl d pp=>?_)
   have pl_len:pl.length=es.size:=by rw[pp.length_eq,List.length_range]
   have pl_lt:∀k∈pl,k<es.size:=fun k hk=>List.mem_range.mp (pp.mem_iff.mp hk)
   refine wpAny_bind (wpAny_newTuple ?_ (by rw[List.length_map,pl_len];exact hz))
   generalize hoT:({cls:= .type "tuple",data:= .seq (pl.map fun(i:Nat)=>rawInt i).toArray}:Obj)=oT
   have gT:(s.heap.push oT).get? s.heap.objs.size=some oT:=Heap.get?_push_size _ (by rw[←hoT];rfl)
   have ho1:(s.heap.push oT).get? a=some o:=Heap.get?_push_of_some _ ho
   refine wpAny_bind (wpAny_setEpoch_of (s:={s with heap:=s.heap.push oT,drawn:=d}) ho1 hd hf ?_)
   refine wpAny_bind ?_
   show wpAny _ _ (newObj (.type "set_iterator") (.fields #[.ref s.heap.objs.size,rawInt 0,.ref a,rawInt es.size,rawInt ep])) _ _ _
   refine wpAny_newObj_type (wpAny_pure ⟨_,rfl,"set_iterator",_,⟨_,Heap.get?_push_size _ rfl,rfl⟩,Xv.lookup,?_⟩)
   have sz1:(s.heap.push oT).objs.size=s.heap.objs.size+1:=Heap.size_push _ _
   refine h d _ (s.heap.push oT).objs.size s.heap.objs.size (pl.map (fun k=>(es.getD k (0,.none)).2)) ?_ ⟨Heap.get?_push_of_some _ ho1,.inr (.inr ⟨pl,⟨oT,Heap.get?_push_of_some _ gT,by rw[←hoT],0,by rw[←hoT]⟩,rfl,pl_lt,Heap.get?_push_size _ rfl⟩)⟩ ?_ ?_ ?_ (.inr (Nat.le_refl _)) fun b u q=>Heap.get?_push_of_some _ (Heap.get?_push_of_some _ q)
   ·refine(pp.map _).trans ?_
    have e:(List.range es.size).map (fun k=>(es.getD k (0,.none)).2)=es.toList.map (·.2):=by
     apply List.ext_getElem?
     intro i
     have e1:es.toList[i]?=es[i]?:=Array.getElem?_toList
     rw[List.getElem?_map,List.getElem?_map,e1]
     by_cases hi:i<es.size
     ·rw[List.getElem?_range hi,Array.getElem?_eq_getElem hi]
      show some (es.getD i _).2=_
      rw[Array.getD_eq_getD_getElem?,Array.getElem?_eq_getElem hi];rfl
     ·rw[List.getElem?_eq_none (by rw[List.length_range];omega),Array.getElem?_eq_none (by omega)];rfl
    rw[e]
   ·rw[sz1];exact Nat.le_succ _
   ·rw[sz1];exact Nat.ne_of_lt (Nat.lt_succ_of_lt la)
   ·rw[sz1];exact Nat.ne_of_lt (Nat.lt_succ_self _)
end
end SW
namespace SW
open PySem PyProof.Rows PySem.W
section
variable{prog:Program}{w:World}{A:Around}{E:Value→Shared→Prop}{s:Shared}
theorem Zd1{a:Addr}{Q:Bool→Shared→Prop}(hT:s.TypeIs (.ref a) "set")(h:Q false s):wpAny (model prog w) A (Builtin.List.listLengthHint (.ref a)) Q E s:=by
 unfold Builtin.List.listLengthHint
 refine wpAny_bind (wpAny_specialOf hT PySem.F.slot_set_len.lookup ?_)
 generalize hid:("set.__len__":String)=id0
 wp_delta
 rw[show splitId id0=some ("set","__len__") from by subst hid;decide+kernel]
 subst hid
 refine wpAny_bind (wpAny_isInstance (T:="set") (b:=true) hT sub_set_self ?_)
 refine wpAny_ite_split (fun z=>absurd z (by decide)) fun _=>?_
 refine wpAny_ite_split (fun _=>wpAny_bind (wpAny_typeOf hT (wpAny_pure h))) fun z=>absurd (by decide+kernel) z
theorem Zq3{a S:Addr}{o:Obj}{es:Array (Int×Value)}{ep:Nat}{t:SetTable}{res:Value}{R:Result→Shared→Prop}(hh:A.handled=none)(hc:o.cls= .type "set")(ho:s.heap.get? a=some o)(hd:o.data= .set es ep t)(hf:t.fits es.size=true)(ht:TOk t (Qe w))(hz:es.size≤sizeLine)
  (hSa:S≠a) (c0:Nat) (hS:s.heap.get? S=some {cls:= .type "list",data:= .seq #[] c0})
  (hR:∀h' tk d (vs:List Value) c',vs.Perm (es.toList.map (·.2))→(∀b u,b≠S→s.heap.get? b=some u→h'.get? b=some u)→h'.get? S=some {cls:= .type "list",dict:=none,data:= .seq vs.toArray c',slots:=#[]}→R (.ok (.ret res)) {s with heap:=h',toks:=tk,drawn:=d}):
  wpAny (model prog w) A.in1 (Builtin.List.listExtendWith (.ref S) (.ref a) res)
   (fun fin s'=>match fin with | .done f=>R (.ok f) s' | .again c'=>c'.quiet=true∧codeAny (model prog w) A c' R s') (fun e s'=>R (.error e) s') s:=by
 have lS:S<s.heap.objs.size:=Heap.lt_size hS
 unfold Builtin.List.listExtendWith
 refine wpAny_bind (wpAny_typeOf (T:="set") ⟨o,ho,hc⟩ ?_)
 have q1:Builtin.List.listSameRef (.ref S) (.ref a)=false:=by simp[Builtin.List.listSameRef,hSa]
 have q2:(Value.type "set"==Value.type "list")=false:=by decide
 have q3:(Value.type "set"==Value.type "tuple")=false:=by decide
 simp only[q1,q2,q3,Bool.or_false,Bool.false_eq_true,if_false]
 refine wpAny_bind (Zx0 hc ho hd hf ht hz fun d h1 I T vs pv st lI na nT lT k1=>?_)
 have nSI:S≠I:=Nat.ne_of_lt (Nat.lt_of_lt_of_le lS lI)
 have nST:S≠T:=by
  rcases lT with rfl | lT
  ·exact hSa
  ·exact Nat.ne_of_lt (Nat.lt_of_lt_of_le lS lT)
 have nf:S∉[I,a,T]:=by
  simp only[List.mem_cons,List.not_mem_nil,or_false,not_or]
  exact⟨nSI,hSa,nST⟩
 have W:=Za4 (prog:=prog) (w:=w) (A:=A.in1) (vs:=vs) hh na nT hd hf
 have vl:vs.length≤sizeLine:=by rw[pv.length_eq,List.length_map,Array.length_toList];exact hz
 have hS1:h1.get? S=some {cls:= .type "list",data:= .seq #[] c0}:=k1 _ _ hS
 have key:∀(h2:Heap) (c1 tk:Nat),ItSt w I a T o es ep t vs 0 h2→(∀b u,b≠S→s.heap.get? b=some u→h2.get? b=some u)→h2.get? S=some {cls:= .type "list",data:= .seq #[] c1}→
   codeAny (model prog w) A (.builtin "list.extend.loop" ⟨[.ref S,.ref I,res],[]⟩) R {s with heap:=h2,toks:=tk,drawn:=d}:=by
  intro h2 c1 tk st2 k2 g2
  refine codeAny_extend_loopS W.toS vl S nf res vs.length 0 _ #[] c1 rfl (Nat.zero_le _) st2 g2 (ItemsOf.nil _) fun s' acc c' mv hS' hacc=>?_
  rw[Moved.eq_with mv]
  have ea:acc=vs.toArray:=by
   apply Array.ext'
   apply List.ext_getElem?
   intro i
   by_cases hi:i<acc.size
   ·have h3:acc.toList[i]?=some acc[i]:=by rw[Array.getElem?_toList,Array.getElem?_eq_getElem hi]
    rw[h3]
    exact(hacc.2 i acc[i] (Array.getElem?_eq_getElem hi)).symm
   ·rw[List.getElem?_eq_none (by rw[Array.length_toList];omega),List.getElem?_eq_none (by have:=hacc.1;show vs.length≤i;omega)]
  rw[ea] at hS'
  refine hR s'.heap s'.toks d vs c' pv (fun b u hb e=>mv.heap b u ?_ (k2 b u hb e)) hS'
  intro hm
  rcases List.mem_cons.mp hm with z | z
  ·exact hb z
  ·rw[List.mem_singleton.mp z] at e
   exact absurd (Heap.lt_size e) (Nat.not_lt.mpr lI)
 refine wpAny_bind (wpAny_holding (Zd1 ⟨o,k1 _ _ ho,hc⟩ ?_))
 refine wpAny_ite_split (fun _=>?_) fun _=>wpAny_pure ⟨plainId_quiet PySem.F.plain_extend_loop _,key h1 c0 _ st (fun b u _ e=>k1 b u e) hS1⟩
 refine wpAny_bind (wpAny_rule (wpAny_bind ?_))
 show wpAny _ _ (updateSeq S (·.push .none) >>=fun _=>updateSeq S (·.pop)) _ _ _
 refine wpAny_bind (wpAny_updateSeq hS1 rfl ?_)
 have g2:=Heap.get?_update_self (Obj.mapSeq (·.push Value.none)) hS1 rfl
 refine wpAny_updateSeq (hz:=by seq_fits) g2 rfl ?_
 have g3:=Heap.get?_update_self (Obj.mapSeq (·.pop)) g2 rfl
 have far:∀b u,b≠S→h1.get? b=some u→((h1.update S (Obj.mapSeq (·.push Value.none))).update S (Obj.mapSeq (·.pop))).get? b=some u:=fun b u hb e=>(Heap.get?_update_other _ _ (Ne.symm hb)).trans ((Heap.get?_update_other _ _ (Ne.symm hb)).trans e)
 refine wpAny_pure ⟨plainId_quiet PySem.F.plain_extend_loop _,key _ _ _ (W.frame 0 _ _ st fun b hb u e=>far b u (fun z=>nf (z ▸ hb)) e) (fun b u hb e=>far b u hb (k1 b u e)) g3⟩
theorem Ek{r:Value}{P:List Value→Prop}{R:List Value→Shared→Prop}
  (hx:∀R:Result→Shared→Prop,(∀h' tk d vs c',P vs→(∀b u,s.heap.get? b=some u→h'.get? b=some u)→h'.get? s.heap.objs.size=some {cls:= .type "list",dict:=none,data:= .seq vs.toArray c',slots:=#[]}→R (.ok (.ret (.ref s.heap.objs.size))) {s with heap:=h',toks:=tk,drawn:=d})→
   wpAny (model prog w) A.in1 (Builtin.List.listExtendWith (.ref s.heap.objs.size) r (.ref s.heap.objs.size))
    (fun fin s'=>match fin with | .done f=>R (.ok f) s' | .again c'=>c'.quiet=true∧codeAny (model prog w) A c' R s') (fun e s'=>R (.error e) s') {s with heap:=s.heap.push {cls:= .type "list",data:= .seq ([]:List Value).toArray}})
  (h:∀h' tk d vs,P vs→(∀b u,s.heap.get? b=some u→h'.get? b=some u)→s.heap.objs.size≤h'.objs.size→R vs {s with heap:=h',toks:=tk,drawn:=d}):
  wpAny (model prog w) A (collect r) R E s:=by
 unfold collect
 refine wpAny_bind (wpAny_runValue (codeAny_builtin entry_proto_collect' ?_))
 rw[Around.under_plainId PySem.F.plain_proto_collect _]
 show wpAny _ A.in1 (newList [] >>=fun l=>again (.builtin "list.__iadd__" ⟨[l,r],[]⟩)) _ _ s
 refine wpAny_bind (wpAny_newObj_type (wpAny_pure ⟨plainId_quiet PySem.F.plain_list_iadd _,codeAny_builtin entry_list_iadd' ?_⟩))
 rw[Around.under_plainId PySem.F.plain_list_iadd _]
 have fin:∀s2:Shared,(∃h' tk d,∃vs:List Value,∃c',P vs∧(∀b u,s.heap.get? b=some u→h'.get? b=some u)∧h'.get? s.heap.objs.size=some {cls:= .type "list",dict:=none,data:= .seq vs.toArray c',slots:=#[]}∧s2={s with heap:=h',toks:=tk,drawn:=d})→wpAny (model prog w) A (load s.heap.objs.size >>=fun o=>match o.data with | .seq xs _=>pure xs.toList | _=>unsupported "internal:collect") R E s2:=by
  rintro s2 ⟨h',tk,d,vs,c',pv,k,g,rfl⟩
  exact wpAny_bind (wpAny_load g (wpAny_pure (h h' tk d vs pv k (Nat.le_of_lt (Heap.lt_size g)))))
 have key:=hx (fun q s2=>q= .ok (.ret (.ref s.heap.objs.size))∧∃h' tk d,∃vs:List Value,∃c',P vs∧(∀b u,s.heap.get? b=some u→h'.get? b=some u)∧h'.get? s.heap.objs.size=some {cls:= .type "list",dict:=none,data:= .seq vs.toArray c',slots:=#[]}∧s2={s with heap:=h',toks:=tk,drawn:=d})
  (fun h' tk d vs c' pv k g=>⟨rfl,h',tk,d,vs,c',pv,k,g,rfl⟩)
 show wpAny _ A.in1 (Builtin.List.listExtendWith (.ref s.heap.objs.size) r (.ref s.heap.objs.size)) _ _ _
 refine wpAny_mono key (fun f s2 x=>?_) fun e s2 x=>by cases x.1
 cases f with
 | done f=>
  obtain⟨e,x⟩:=x
  cases e
  exact fin s2 x
 | again c1=>
  refine⟨x.1,codeAny_mono x.2 fun q s3 y=>?_⟩
  obtain⟨rfl,y⟩:=y
  exact fin s3 y
theorem Bq{h:Heap}{a:Addr}{vs:List Value}{n:Nat}(ho:h.get? a=some (seqObj "list" vs.toArray n))(out:Array Value):(∃c,(sortedHeap h a vs out).get? a=some (seqObj "list" out c))∧∀b u,b≠a→h.get? b=some u→(sortedHeap h a vs out).get? b=some u:=by
 have la:=Heap.lt_size ho
 constructor
 ·have h1:=get?_update_seq ho (fun _=>(#[]:Array Value))
  have h2:(((h.update a (Obj.mapSeq fun _=>#[])).push (seqObj "tuple" vs.toArray 0)).push (seqObj "list" #[] 0)).get? a=_:=Heap.get?_push_of_some _ (Heap.get?_push_of_some _ h1)
  exact⟨_,get?_update_seq h2 (fun _=>out)⟩
 ·intro b u hb e
  unfold sortedHeap
  rw[Heap.get?_update_other _ _ (Ne.symm hb)]
  refine Heap.get?_push_of_some _ (Heap.get?_push_of_some _ ?_)
  rw[Heap.get?_update_other _ _ (Ne.symm hb)]
  exact e
theorem B2{r:Value}{P:List Value→List Int→Prop}{Q:Value→Shared→Prop}
  (hx:∀R:Result→Shared→Prop,(∀h' tk d vs c',(∃ns,P vs ns)→(∀b u,s.heap.get? b=some u→h'.get? b=some u)→h'.get? s.heap.objs.size=some {cls:= .type "list",dict:=none,data:= .seq vs.toArray c',slots:=#[]}→R (.ok (.ret (.ref s.heap.objs.size))) {s with heap:=h',toks:=tk,drawn:=d})→
   wpAny (model prog w) A.in1.in1 (Builtin.List.listExtendWith (.ref s.heap.objs.size) r (.ref s.heap.objs.size))
    (fun fin s'=>match fin with | .done f=>R (.ok f) s' | .again c'=>c'.quiet=true∧codeAny (model prog w) A.in1 c' R s') (fun e s'=>R (.error e) s') {s with heap:=s.heap.push {cls:= .type "list",data:= .seq ([]:List Value).toArray}})
  (hP:∀vs ns,P vs ns→IntsAre vs ns∧vs.length<64)
  (h:∀h' tk d D c (out:List Value) ns ns' vs,(∀b u,s.heap.get? b=some u→h'.get? b=some u)→s.heap.objs.size≤D→h'.get? D=some {cls:= .type "list",dict:=none,data:= .seq out.toArray c,slots:=#[]}→P vs ns→IntsAre out ns'→ns'.Perm ns→ns'.Pairwise (·≤·)→Q (.ref D) {s with heap:=h',toks:=tk,drawn:=d}):
  wpAny (model prog w) A (call (.builtin "sorted") [r]) Q E s:=by
 refine Calls.call_function_entry kind_sorted plain_sorted entry_sorted (args_sorted1 _) ?_
 unfold Builtin.«sorted»
 refine wpAny_bind (m:=checkCount "sorted" 1 1 _) (wpAny_pure ?_)
 refine wpAny_bind (Ek hx fun h1 tk d vs p0 k1 hs=>?_)
 obtain⟨ns,p1⟩:=p0
 obtain⟨i1,l1⟩:=hP vs ns p1
 refine wpAny_bind (wpAny_newList ?_ (by rw[sizeLine_eq];omega))
 have g1:(h1.push (seqObj "list" vs.toArray 0)).get? h1.objs.size=some (seqObj "list" vs.toArray 0):=Heap.get?_push_size _ rfl
 refine wpAny_bind (wpAny_holding (wpAny_call_entry slot_list_sort ⟨_,g1,rfl⟩ entry_list_sort (list_sort_tree g1 i1 l1 fun out ns' a1 a2 a3=>⟨_,rfl,?_⟩) (args_list_sort _)))
 obtain⟨⟨c,g2⟩,k2⟩:=Bq g1 out
 have ea:out=out.toList.toArray:=by simp
 refine wpAny_pure ⟨_,rfl,h _ tk d h1.objs.size c out.toList ns ns' vs (fun b u e=>k2 b u (Nat.ne_of_lt (Heap.lt_size (k1 b u e))) (Heap.get?_push_of_some _ (k1 b u e))) hs ?_ p1 a1 a2 a3⟩
 rw[←ea]
 exact g2
end
end SW
namespace SW
open PySem PyProof.Rows
theorem By{vs vs':List Value}(p:vs'.Perm vs):∀{ns:List Int},IntsAre vs ns→∃ns',ns'.Perm ns∧IntsAre vs' ns':=by
 induction p with
 | nil=>intro ns h;exact⟨ns,List.Perm.refl _,h⟩
 | cons x p ih=>
  intro ns h
  cases h with
  | cons n t r=>
   obtain⟨ns',a,b⟩:=ih r
   exact⟨_,a.cons _,.cons n t b⟩
 | swap x y l=>
  intro ns h
  cases h with
  | cons n t r=>
   cases r with
   | cons m u r=>exact⟨_,List.Perm.swap _ _ _,.cons m u (.cons n t r)⟩
 | trans p q ih1 ih2=>
  intro ns h
  obtain⟨k1,a1,b1⟩:=ih2 h
  obtain⟨k2,a2,b2⟩:=ih1 b1
  exact⟨k2,a2.trans a1,b2⟩
end SW
namespace L3
open PySem PySem.Spec PyProof.Rows L2
section
variable{X:Cx}{pins:List (Addr×Obj)}{σ:L2.St}{H:Hp}{s:Shared}
theorem drew(I:Inv X pins σ H s)(d:Drawn):Inv X pins σ H {s with drawn:=d}:=⟨I.ok,I.os,I.bare,I.base,I.loc,I.cell,I.free,I.freeC,I.pin,I.hok,I.len⟩
def Wq(P:Program)(w:World)(a:Addr)(ks:List Key)(h:Heap):Prop:=∃o,h.get? a=some o∧SW.SetO (Yb P w) (SW.Qe w) o ks
theorem Wq.stay{P:Program}{w:World}{a:Addr}{ks:List Key}{h h':Heap}(x:Wq P w a ks h)(k:∀o,h.get? a=some o→h'.get? a=some o):Wq P w a ks h':=by
 obtain⟨o,ho,r⟩:=x
 exact⟨o,k _ ho,r⟩
theorem Z18(hc:X.calm=true):Wt X (.type "set") (fun xs H Q=>∃(a:Addr) (ks:List Key),xs=[V.ref a]∧SqL X.K H a (ks.map kV)∧ks.length+1<scanBound∧∀p ks',H p=none→ks'.Nodup→ks'.length≤ks.length→(∀k,k∈ks'↔k∈ks)→Q (.ref p) (upd H p (.ext (Wq X.prog X.w p ks')))):=by
 intro pins s σ H xs us Q I r h
 obtain⟨a,ks,rfl,hx,hz,q⟩:=h
 obtain⟨u,rfl,ru⟩:=Q6 r
 cases ru
 obtain⟨its,rv,p,_⟩:=I.list hx
 have hl:its.length=ks.length:=by have:=rv.length;rw[List.length_map] at this;exact this.symm
 refine SW.Zb6 (knd:=Yb X.prog X.w) (key:=fun i=>ks.getD i (.inl 0)) (I.ok.hd hc) p.isList (fun i v e=>?_) (by rw[List.size_toArray];omega) fun h' tk o ks' ho hS hlk hm k=>?_
 ·rw[List.getElem?_toArray] at e
  have hi:i<ks.length:=by have:=(List.getElem?_eq_some_iff.mp e).1;omega
  have e1:(ks.map kV)[i]?=some (kV ks[i]):=by rw[List.getElem?_map,List.getElem?_eq_getElem hi];rfl
  obtain⟨u,e2,r2⟩:=rv.get e1
  rw[e] at e2
  cases e2
  have e3:ks.getD i (.inl 0)=ks[i]:=by rw[List.getD_eq_getElem?_getD,List.getElem?_eq_getElem hi];rfl
  have hk:J3 ks[i] v=true:=G3 (P:=X.prog) (w:=X.w) r2
  refine⟨by show J3 (ks.getD i (.inl 0)) v=true;rw[e3];exact hk,?_⟩
  rcases Zv hk with⟨i,t,_,rfl⟩ | ⟨x,t,_,rfl⟩<;>rfl
 ·have k':∀b u,s.heap.get? b=some u→h'.get? b=some u:=fun b u e=>k b u (Heap.lt_size e) e
  refine⟨.ref _,_,I.laid (a:=s.heap.objs.size) (o:= .ext (Wq X.prog X.w s.heap.objs.size ks')) (t':=tk) k' (Nat.le_refl _) ⟨⟨o,ho,hS⟩,⟨o,ho⟩,fun h1 h2 x k=>x.stay k⟩,rfl,q _ ks' (I.hok.fresh (Nat.le_refl _)) hS.nd (by rw[List.size_toArray,hl] at hlk;exact hlk) fun k=>?_⟩
  rw[hm,List.size_toArray,hl,List.mem_iff_getElem]
  constructor
  ·rintro⟨j,hj,e⟩
   exact⟨j,hj,by rw[←e,List.getD_eq_getElem?_getD,List.getElem?_eq_getElem hj];rfl⟩
  ·rintro⟨j,hj,e⟩
   exact⟨j,hj,by rw[←e,List.getD_eq_getElem?_getD,List.getElem?_eq_getElem hj];rfl⟩
theorem Nr{P:Program}{w:World}:∀{ns:List Int} {l:List (Int×Value)},SW.KeysOf (Yb P w) (ns.map Sum.inl) l→IntsAre (l.map (·.2)) ns
 | [],l,h=>by cases h;exact .nil
 | n::ns,l,h=>by
  cases h with
  | cons h r=>
   rename_i e l
   rcases Zv (k:=Sum.inl n) (v:=e.2) h with⟨i,t,q,hv⟩ | ⟨x,t,q,hv⟩
   ·cases q
    rw[List.map_cons,hv]
    exact .cons _ _ (Nr r)
   ·cases q
theorem Ve:∀{vs:List Value} {ns:List Int},IntsAre vs ns→Vals (ns.map V.int) vs
 | _,_,.nil=> .nil
 | _,_,.cons n t r=> .cons ⟨t,rfl⟩ (Ve r)
theorem Zj4(I:Inv X pins σ H s){p:Addr}{φ:Heap→Prop}(h:H p=some (.ext φ)):φ s.heap:=(I.hok p _ h).1
def Zj2(P:Program)(w:World):List V→Hp→VK→Prop:=fun xs H Q=>∃(p:Addr) (ns:List Int),xs=[V.ref p]∧H p=some (.ext (Wq P w p (ns.map Sum.inl)))∧ns.length<64∧∀q (ms:List Int),H q=none→ms.Perm ns→ms.Pairwise (·≤·)→Q (.ref q) (upd H q (.lst (ms.map V.int)))
theorem Ng(hc:X.calm=true):Wt X (.builtin "sorted") (Zj2 X.prog X.w):=by
 intro pins s σ H xs us Q I r h
 obtain⟨p,ns,rfl,hx,hz,q⟩:=h
 obtain⟨u,rfl,ru⟩:=Q6 r
 cases ru
 obtain⟨o,ho,hS⟩:=Zj4 I hx
 obtain⟨es,ep,t,hd,he,hks,hf,ht⟩:=hS.dat
 have hi:=Nr hks
 have hl:es.size=ns.length:=by have:=hks.len;rw[List.length_map,Array.length_toList] at this;exact this.symm
 refine SW.B2 (P:=fun vs ns'=>ns'.Perm ns∧IntsAre vs ns') (fun R hR=>?_) (fun vs ns' ⟨h1,h2⟩=>⟨h2,?_⟩) fun h' tk d D c out n1 n2 vs k lD g ⟨a1,a2⟩ b1 b2 b3=>?_
 ·have hS0:(s.heap.push {cls:= .type "list",data:= .seq ([]:List Value).toArray}).get? s.heap.objs.size=some {cls:= .type "list",data:= .seq #[] 0}:=Heap.get?_push_size _ rfl
  refine SW.Zq3 (A:=X.A.in1) (s:={s with heap:=s.heap.push {cls:= .type "list",data:= .seq ([]:List Value).toArray}}) (I.ok.hd hc) hS.ex.1 (Heap.get?_push_of_some _ ho) hd hf ht (by rw[hl,sizeLine_eq];omega) (Nat.ne_of_gt (Heap.lt_size ho)) 0 hS0 fun h' tk d vs c' pv k g=>?_
  obtain⟨ns',q1,q2⟩:=SW.By pv hi
  exact hR h' tk d vs c' ⟨ns',q1,q2⟩ (fun b u e=>k b u (Nat.ne_of_lt (Heap.lt_size e)) (Heap.get?_push_of_some _ e)) g
 ·rw[h2.length,h1.length_eq];exact hz
 ·have hp:n2.Perm ns:=b2.trans a1
  refine⟨.ref D,_,drew (I.laid (a:=D) (o:= .lst (n2.map V.int)) (t':=tk) k lD ⟨?_,out,c,Ve b1,g⟩) d,rfl,q D n2 (I.hok.fresh lD) hp b3⟩
  rw[List.length_map,hp.length_eq,sizeLine_eq];omega
def Zx4(P:Program)(w:World):List V→Hp→VK→Prop:=fun xs H Q=>∃(p:Addr) (ks:List Key),xs=[V.ref p]∧H p=some (.ext (Wq P w p ks))∧Q (.int ks.length) H
theorem Bw:Wt X (.builtin "len") (Zx4 X.prog X.w):=by
 intro pins s σ H xs us Q I r h
 obtain⟨p,ks,rfl,hx,q⟩:=h
 obtain⟨u,rfl,ru⟩:=Q6 r
 cases ru
 obtain⟨o,ho,hS⟩:=Zj4 I hx
 obtain⟨es,ep,t,hd,he,hks,hf,ht⟩:=hS.dat
 have hl:es.size=ks.length:=by have:=hks.len;rw[Array.length_toList] at this;exact this.symm
 have hb:ks.length<scanBound:=hS.sm
 have h4:scanBound=4096:=rfl
 refine call_len_set ho hS.ex hd hf (Int.lt_of_lt_of_le (show(es.size:Int)<4096 by omega) (by decide)) ?_
 rw[hl]
 exact⟨.int _,H,I.tok _,⟨_,rfl⟩,q⟩
end
section
variable{X:Cx}{pins:List (Addr×Obj)}{σ:L2.St}{H:Hp}{s:Shared}
theorem Z30{prog:Program}{w:World}{A:Around}{E:Value→Shared→Prop}{s:Shared}{t sl:Addr}{its:Array Value}{vl vu:Value}{lo hi:Option Int}{Q:Value→Shared→Prop}(ht:IsTup s.heap t its)(hs:s.heap.IsSliceOf sl vl vu .none)(pl:IsPart vl lo)(pu:IsPart vu hi)
  (hw:HT.sIx its.size 0 lo=0∧HT.sIx its.size its.size hi=its.size) (h:Q (.ref t) s):wpAny (model prog w) A (getItem (.ref t) (.ref sl)) Q E s:=by
 obtain⟨os,hos,hcs,hds⟩:=id hs
 have hTs:s.TypeIs (.ref sl) "slice":=⟨os,hos,hcs⟩
 unfold getItem
 try with_reducible refine wpAny_holding ?_
 first | refine wpAny_bind (wpAny_pure ?_) | skip
 refine wpAny_bind (wpAny_sequenceKey ht.typeIs (by decide) ?_)
 refine wpAny_bind (wpAny_callSpecial?_slot (name:=Str.ofString "__getitem__") ht.typeIs PyProof.Rows.slot_tuple_getitem (wpAny_call_entry PyProof.Rows.slot_tuple_getitem ht.typeIs entry_tuple_getitem ?_ (args_tuple_getitem _ _)))
 show wpAny _ _ (Builtin.Tuple.tupleItemsOf (.ref t) >>=_) _ _ s
 refine wpAny_bind (tupleItemsOf_ ht (wpAny_bind (wpAny_typeOf hTs ?_)))
 rw[if_pos (by decide)]
 refine wpAny_bind (HT.Wr hs pl pu ?_)
 show wpAny _ _ (if (((HT.sIx its.size 0 lo:Nat):Int)==0&&(1:Int)==1&&(HT.sIx its.size its.size hi - HT.sIx its.size 0 lo)==its.size)=true then _ else _) _ _ s
 rw[if_pos (by rw[hw.1,hw.2];simp)]
 refine wpAny_bind ?_
 unfold Builtin.Tuple.tupleIsExact
 refine wpAny_bind (wpAny_typeOf ht.typeIs (wpAny_pure ?_))
 rw[if_pos (by decide)]
 exact wpAny_bind (wpAny_rule (wpAny_pure ⟨_,rfl,wpAny_pure h⟩))
theorem Zm6:SlR X (fun x lo hi H Q=>∃a xs,x= .ref a∧SqT X.K H a xs∧(HT.sIx xs.length 0 lo=0∧HT.sIx xs.length xs.length hi=xs.length)∧Q x H):=by
 intro pins s σ H x v vl vu lo hi sl Q I rx hs pl pu h
 obtain⟨a,xs,rfl,hx,hw,q⟩:=h
 cases rx
 obtain⟨its,r,ht,hz⟩:=I.tuple hx
 have hlen:its.toArray.size=xs.length:=by rw[List.size_toArray];exact r.length.symm
 exact⟨"tuple",_,PyProof.Rows.slot_tuple_getitem.lookup,ht.typeIs,Z30 ht hs pl pu (by rw[hlen];exact hw) ⟨.ref a,H,I,rfl,q⟩⟩
end
end L3
namespace L2
open PySem PySem.Spec PyProof.Rows
variable{X:Cx}
end L2
namespace SW
open PySem PySem.Spec PyProof.Rows
section
variable{prog:Program}{w:World}{A:Around}{E:Value→Shared→Prop}{s:Shared}
theorem Eh:typeLookup (.type "list_reverseiterator") "__len__"=pure none:=by rw[typeLookup_type,builtinLookup_eq_fast];kernel_rfl
theorem Oj:Slot "list_reverseiterator" "__length_hint__" "list_reverseiterator.__length_hint__":=
 .of (owner:="list_reverseiterator") (n:="__length_hint__") (by rw[typeLookup_type,builtinLookup_eq_fast];kernel_rfl) (by decide+kernel) (by decide+kernel) (by decide+kernel)
  (by first | exact .inl (by decide+kernel) | exact .inr (by decide+kernel)) (by rw[isSubtype_type];kernel_rfl)
theorem Ze1{r:Addr}{Q:Bool→Shared→Prop}(hT:s.TypeIs (.ref r) "list_reverseiterator")(h:Q false s):wpAny (model prog w) A (Builtin.List.listLengthHint (.ref r)) Q E s:=by
 unfold Builtin.List.listLengthHint
 refine wpAny_bind (wpAny_specialOf hT Eh ?_)
 show wpAny _ A (specialOf (Value.ref r) (Str.ofString "__length_hint__") >>=_) _ _ _
 refine wpAny_bind (wpAny_specialOf hT Oj.lookup ?_)
 generalize hid:("list_reverseiterator.__length_hint__":String)=id0
 wp_delta
 rw[show splitId id0=some ("list_reverseiterator","__length_hint__") from by subst hid;decide+kernel]
 subst hid
 refine wpAny_bind (wpAny_isInstance (T:="list_reverseiterator") (b:=true) hT (by rw[isSubtype_type];kernel_rfl) ?_)
 refine wpAny_ite_split (fun hab=>absurd hab (by decide)) (fun _=>?_)
 dsimp only
 refine wpAny_ite_split (fun _=>?_) (fun hab=>absurd (by decide+kernel) hab)
 refine wpAny_ite_split (fun hab=>absurd hab (by decide+kernel)) (fun _=>?_)
 exact wpAny_pure h
theorem Zl9{I l S:Addr}{items:Array Value}{res:Value}{R:Result→Shared→Prop}(hh:A.handled=none)(hit:s.heap.IsRevIter I l ((items.size:Int) - 1))(hl:s.heap.IsList l items)(hz:items.size≤sizeLine)(hlI:l≠I)(hSI:S≠I)(hSl:S≠l)(c0:Nat)(hS:s.heap.get? S=some {cls:= .type "list",data:= .seq #[] c0})
  (hR:∀h' tk acc c',ItemsOf (fun i v=>items[items.size - 1 - i]?=some v) acc items.size→(∀b u,b≠S→b≠I→s.heap.get? b=some u→h'.get? b=some u)→h'.get? S=some {cls:= .type "list",dict:=none,data:= .seq acc c',slots:=#[]}→R (.ok (.ret res)) {s with heap:=h',toks:=tk}):
  wpAny (model prog w) A.in1 (Builtin.List.listExtendWith (.ref S) (.ref I) res)
   (fun fin s'=>match fin with | .done f=>R (.ok f) s' | .again c'=>c'.quiet=true∧codeAny (model prog w) A c' R s') (fun e s'=>R (.error e) s') s:=by
 have W:=Walks.listRev (prog:=prog) (w:=w) (A:=A.in1) hh I l hlI items
 have nf:S∉[I,l]:=by
  simp only[List.mem_cons,List.not_mem_nil,or_false,not_or]
  exact⟨hSI,hSl⟩
 have st0:0≤items.size∧s.heap.IsRevIter I l ((items.size:Int) - 1 - ((0:Nat):Int))∧s.heap.IsList l items:=⟨Nat.zero_le _,by rw[show(items.size:Int) - 1 - ((0:Nat):Int)=(items.size:Int) - 1 by omega];exact hit,hl⟩
 have hT:=hit.typeIs
 unfold Builtin.List.listExtendWith
 refine wpAny_bind (wpAny_typeOf hT ?_)
 have q1:Builtin.List.listSameRef (.ref S) (.ref I)=false:=by simp[Builtin.List.listSameRef,hSI]
 have q2:(Value.type "list_reverseiterator"==Value.type "list")=false:=by decide
 have q3:(Value.type "list_reverseiterator"==Value.type "tuple")=false:=by decide
 simp only[q1,q2,q3,Bool.or_false,Bool.false_eq_true,if_false]
 refine wpAny_bind (wpAny_pyIter_revIter hit ?_)
 have key:∀(h2:Heap) (c1 tk:Nat),(0≤items.size∧h2.IsRevIter I l ((items.size:Int) - 1 - ((0:Nat):Int))∧h2.IsList l items)→(∀b u,b≠S→s.heap.get? b=some u→h2.get? b=some u)→h2.get? S=some {cls:= .type "list",data:= .seq #[] c1}→
   codeAny (model prog w) A (.builtin "list.extend.loop" ⟨[.ref S,.ref I,res],[]⟩) R {s with heap:=h2,toks:=tk}:=by
  intro h2 c1 tk st2 k2 g2
  refine codeAny_extend_loopS W.toS hz S nf res items.size 0 _ #[] c1 rfl (Nat.zero_le _) st2 g2 (ItemsOf.nil _) fun s' acc c' mv hS' hacc=>?_
  rw[Moved.eq_with mv]
  refine hR s'.heap s'.toks acc c' hacc (fun b u hb hI e=>mv.heap b u ?_ (k2 b u hb e)) hS'
  intro hm
  rcases List.mem_cons.mp hm with z | z
  ·exact hb z
  ·exact hI (List.mem_singleton.mp z)
 refine wpAny_bind (wpAny_holding (Ze1 hT ?_))
 refine wpAny_ite_split (fun _=>?_) fun _=>wpAny_pure ⟨plainId_quiet PySem.F.plain_extend_loop _,key _ c0 _ st0 (fun b u _ e=>e) hS⟩
 refine wpAny_bind (wpAny_rule (wpAny_bind ?_))
 show wpAny _ _ (updateSeq S (·.push .none) >>=fun _=>updateSeq S (·.pop)) _ _ _
 refine wpAny_bind (wpAny_updateSeq hS rfl ?_)
 have g2:=Heap.get?_update_self (Obj.mapSeq (·.push Value.none)) hS rfl
 refine wpAny_updateSeq (hz:=by seq_fits) g2 rfl ?_
 have g3:=Heap.get?_update_self (Obj.mapSeq (·.pop)) g2 rfl
 have far:∀b u,b≠S→s.heap.get? b=some u→((s.heap.update S (Obj.mapSeq (·.push Value.none))).update S (Obj.mapSeq (·.pop))).get? b=some u:=fun b u hb e=>(Heap.get?_update_other _ _ (Ne.symm hb)).trans ((Heap.get?_update_other _ _ (Ne.symm hb)).trans e)
 exact wpAny_pure ⟨plainId_quiet PySem.F.plain_extend_loop _,key _ _ _ (W.frame 0 _ _ st0 fun b hb u e=>far b u (fun z=>nf (z ▸ hb)) e) far g3⟩
theorem Z94{I l S:Addr}{items:Array Value}{R:Result→Shared→Prop}(hh:A.handled=none)(hit:s.heap.IsRevIter I l ((items.size:Int) - 1))(hl:s.heap.IsList l items)(hz:items.size≤sizeLine)(hlI:l≠I)(hSI:S≠I)(hSl:S≠l)(hS:s.heap.get? S=some {cls:= .type "list",data:= .seq #[]})
  (hR:∀h' tk acc c',ItemsOf (fun i v=>items[items.size - 1 - i]?=some v) acc items.size→(∀b u,b≠S→b≠I→s.heap.get? b=some u→h'.get? b=some u)→h'.get? S=some {cls:= .type "list",dict:=none,data:= .seq acc c',slots:=#[]}→R (.ok (.ret .none)) {s with heap:=h',toks:=tk}):
  wpAny (model prog w) A.in1 (Builtin.«list.__init__» ⟨[.ref S,.ref I],[]⟩)
   (fun fin s'=>match fin with | .done f=>R (.ok f) s' | .again c'=>c'.quiet=true∧codeAny (model prog w) A c' R s') (fun e s'=>R (.error e) s') s:=by
 show wpAny _ _ (do let old ←Builtin.List.listItems (.ref S);Builtin.List.listUpdate (.ref S) (fun _=>#[]);letGo old.toList.reverse;Builtin.List.listExtendWith (.ref S) (.ref I) .none) _ _ s
 refine wpAny_bind ?_
 unfold Builtin.List.listItems
 refine wpAny_bind (wpAny_seqItems hS rfl (wpAny_pure ?_))
 show wpAny _ _ (updateSeq S (fun _=>#[]) >>=fun _=>letGo (#[]:Array Value).toList.reverse >>=fun _=>Builtin.List.listExtendWith (.ref S) (.ref I) .none) _ _ s
 refine wpAny_bind (wpAny_updateSeq hS rfl ?_)
 have hS₂:=Heap.get?_update_self (Obj.mapSeq (fun _=>(#[]:Array Value))) hS rfl
 have oth:∀b o,b≠S→s.heap.get? b=some o→(s.heap.update S (Obj.mapSeq (fun _=>(#[]:Array Value)))).get? b=some o:=
  fun b o hb e=>(Heap.get?_update_other _ _ (Ne.symm hb)).trans e
 refine wpAny_bind (wpAny_letGo ?_)
 obtain⟨ol,hol,hol2⟩:=hl
 refine Zl9 hh (hit.at fun o e=>oth _ o (Ne.symm hSI) e) ⟨ol,oth _ ol (Ne.symm hSl) hol,hol2⟩ hz hlI hSI hSl _ hS₂ fun h' tk acc c' ha hk hS'=>?_
 exact hR h' tk acc c' ha (fun b o hb hI e=>hk b o hb hI (oth b o hb e)) hS'
theorem Oy{I l:Addr}{items:Array Value}{Q:Value→Shared→Prop}(hh:A.handled=none)(hit:s.heap.IsRevIter I l ((items.size:Int) - 1))(hl:s.heap.IsList l items)(hz:items.size≤sizeLine)(hlI:l≠I)
  (hQ:∀h' tk acc c',ItemsOf (fun i v=>items[items.size - 1 - i]?=some v) acc items.size→(∀b u,b≠I→s.heap.get? b=some u→h'.get? b=some u)→h'.get? s.heap.objs.size=some {cls:= .type "list",dict:=none,data:= .seq acc c',slots:=#[]}→Q (.ref s.heap.objs.size) {s with heap:=h',toks:=tk}):
  wpAny (model prog w) A (call (.type "list") [.ref I]) Q E s:=by
 refine callType_codes (Q₁:=fun obj s₁=>obj= .ref s.heap.objs.size∧s₁={s with heap:=s.heap.push {cls:= .type "list",data:= .seq #[]}}) PySem.F.called_list (PySem.F.typeCall_list_1 _) PySem.F.entry_list_init
  (code_list_new _ ⟨rfl,rfl⟩) fun obj s₁ h₁=>?_
 obtain⟨rfl,rfl⟩:=h₁
 have hS:(s.heap.push {cls:= .type "list",data:= .seq #[]}).get? s.heap.objs.size=some {cls:= .type "list",data:= .seq #[]}:=Heap.get?_push_size _ rfl
 obtain⟨oi,hoi,hoi2⟩:=id hit
 obtain⟨ol,hol,hol2⟩:=id hl
 refine⟨⟨_,hS,rfl⟩,PySem.F.args_list_init_2 _ _,Z94 (A:=A.in1) hh (hit.at fun o e=>Heap.get?_push_of_some _ e) ⟨ol,Heap.get?_push_of_some _ hol,hol2⟩ hz hlI (Nat.ne_of_gt (Heap.lt_size hoi)) (Nat.ne_of_gt (Heap.lt_size hol)) hS (fun h' tk acc c' ha hk hS'=>?_)⟩
 exact⟨rfl,hQ h' tk acc c' ha (fun b o hI e=>hk b o (Nat.ne_of_lt (Heap.lt_size e)) hI (Heap.get?_push_of_some _ e)) hS'⟩
end
end SW
namespace L3
open PySem PySem.Spec PyProof.Rows L2
section
variable{X:Cx}{pins:List (Addr×Obj)}{σ:L2.St}{H:Hp}{s:Shared}
def Fq(m:Nat)(p l:Addr)(n:Nat):Heap→Prop:=fun h=>h.IsRevIter p l ((n:Int) - 1)∧m≤p∧l≠p
noncomputable def del(H:Hp)(p:Addr):Hp:=fun b=>if b=p then none else H b
theorem Zb0{p S:Addr}{o:HO}{φ:Heap→Prop}{h':Heap}{t':Nat}(I:Inv X pins σ H s)(hp:H p=some (.ext φ))(hm:X.s₀.heap.objs.size≤p)(k:∀b u,b≠p→s.heap.get? b=some u→h'.get? b=some u)(hS:s.heap.objs.size≤S)(new:X9 X.prog X.w (upd (del H p) S o) h' S o):Inv X pins σ (upd (del H p) S o) {s with heap:=h',toks:=t'}:=by
 have ne:∀b,H b=none→b≠p:=fun b e z=>by subst z;rw[hp] at e;cases e
 have nS:H S=none:=I.hok.fresh hS
 have de:∀b o',H b=some o'→b≠p→upd (del H p) S o b=some o':=fun b o' e n=>by
  rw[Zs (fun z=>by subst z;rw[nS] at e;cases e)]
  unfold del;rw[if_neg n];exact e
 refine I.step (g':=s.gens) (d':=s.drawn) (ch:=[p]) ?_ (fun b o _ _ hb e _=>k b o (by simpa using hb) e) (fun b o _ _ hb e _=>⟨o.slots,k b o (by simpa using hb) e⟩) (fun b o hb e n=>?_) (fun b o hb e=>⟨o,k b o (by simpa using hb) e⟩) (fun b xs e=>de b _ e fun z=>by subst z;rw[hp] at e;cases e) (fun b o u e=>de b _ e fun z=>by subst z;rw[hp] at e;cases e) (fun b ps e=>⟨#[],by rw[de b _ e fun z=>by subst z;rw[hp] at e;cases e];simp⟩) ?_ ?_ I.bare
 ·intro b hb
  cases List.mem_singleton.mp hb
  exact⟨.inr hm,fun z=>ne _ I.free z.symm,fun x c e z=>ne _ (I.freeC x c e) z,fun q hq z=>ne _ (I.pin q hq).2.1 z⟩
 ·rw[Zs (Nat.ne_of_lt (Nat.lt_of_lt_of_le (Heap.lt_size e) hS))]
  unfold del
  split
  ·rfl
  ·exact n
 ·rintro m ⟨o,es,ep,ho,r⟩
  exact⟨o,es,ep,k _ _ (ne _ I.free) ho,r⟩
 ·intro a o' e
  by_cases ha:a=S
  ·subst ha
   rw[Yg] at e
   cases e
   exact new
  rw[Zs ha] at e
  have ea:a≠p:=fun z=>by subst z;unfold del at e;rw[if_pos rfl] at e;cases e
  have e':H a=some o':=by unfold del at e;rw[if_neg ea] at e;exact e
  refine(I.hok a o' e').stay (fun b u hb q=>k b u (fun z=>?_) q) (fun b hb=>de b _ hb fun z=>?_) fun b xs hb=>de b _ hb fun z=>?_
  ·subst z
   rcases hb with z | z
   ·exact ea z.symm
   ·rw[hp] at z;cases z
  ·subst z;rw[hp] at hb;cases hb
  ·subst z;rw[hp] at hb;cases hb
def rRev(X:Cx):List V→Hp→VK→Prop:=fun xs H Q=>∃l ys,xs=[V.ref l]∧SqL X.K H l ys∧∀p,H p=none→l≠p→Q (.ref p) (upd H p (.ext (Fq X.s₀.heap.objs.size p l ys.length)))
theorem Ze9:Wt X (.type "reversed") (rRev X):=by
 intro pins s σ H xs us Q I r h
 obtain⟨l,ys,rfl,hl,q⟩:=h
 obtain⟨u,rfl,ru⟩:=Q6 r
 cases ru
 obtain⟨its,rv,pl,hz⟩:=I.list hl
 have il:=pl.isList
 have lt:l<s.heap.objs.size:=by obtain⟨o,ho,_⟩:=il;exact Heap.lt_size ho
 have hn:its.toArray.size=ys.length:=by rw[List.size_toArray,rv.length]
 refine call_reversed_list il ?_
 have it:(s.heap.push (revObj l ((its.toArray.size:Int) - 1))).IsRevIter s.heap.objs.size l ((ys.length:Int) - 1):=⟨_,Heap.get?_push_size _ rfl,rfl,by rw[←hn];rfl⟩
 refine⟨.ref _,_,I.laid (a:=s.heap.objs.size) (o:= .ext (Fq X.s₀.heap.objs.size s.heap.objs.size l ys.length)) (t':=s.toks) (fun b o e=>Heap.get?_push_of_some _ e) (Nat.le_refl _) ⟨⟨it,I.sz,Nat.ne_of_lt lt⟩,⟨_,Heap.get?_push_size _ rfl⟩,fun h1 h2 zz60 k=>by obtain⟨a1,a2⟩:=zz60;exact⟨a1.at k,a2⟩⟩,rfl,q _ (I.hok.fresh (Nat.le_refl _)) (Nat.ne_of_lt lt)⟩
def Zy6(X:Cx):List V→Hp→VK→Prop:=fun xs H Q=>∃p l ys,xs=[V.ref p]∧H p=some (.ext (Fq X.s₀.heap.objs.size p l ys.length))∧SqL X.K H l ys∧∀S,H S=none→Q (.ref S) (upd (del H p) S (.lst ys.reverse))
theorem Ed(hc:X.calm=true):Wt X (.type "list") (Zy6 X):=by
 intro pins s σ H xs us Q I r h
 obtain⟨p,l,ys,rfl,hp,hl,q⟩:=h
 obtain⟨u,rfl,ru⟩:=Q6 r
 cases ru
 obtain⟨⟨it,hm,hlp⟩,_,_⟩:=I.hok p _ hp
 obtain⟨its,rv,pl,hz⟩:=I.list hl
 have hn:its.toArray.size=ys.length:=by rw[List.size_toArray,rv.length]
 refine SW.Oy (I.ok.hd hc) (by rw[hn];exact it) pl.isList (by rw[hn];exact hz) hlp fun h' tk acc c ha k g=>?_
 have e:acc=acc.toList.toArray:=by simp
 rw[e] at g
 refine⟨.ref _,_,Zb0 (t':=tk) I hp hm k (Nat.le_refl _) (o:= .lst ys.reverse) ⟨by rw[List.length_reverse];exact hz,acc.toList,c,?_,g⟩,rfl,q _ (I.hok.fresh (Nat.le_refl _))⟩
 have el:acc.toList=its.reverse:=by
  refine List.ext_getElem? fun i=>?_
  by_cases hi:i<its.length
  ·obtain⟨v,hv⟩:∃v,acc.toList[i]?=some v:=⟨_,List.getElem?_eq_getElem (by rw[Array.length_toList,ha.1];simpa using hi)⟩
   have:=ha.2 i v (by rw[←Array.getElem?_toList];exact hv)
   rw[hv,List.getElem?_reverse hi,←this]
   simp
  ·rw[List.getElem?_eq_none (by rw[Array.length_toList,ha.1];simpa using hi),List.getElem?_eq_none (by simpa using hi)]
 rw[el]
 exact rv.reverse
end
section
variable{X:Cx}{pins:List (Addr×Obj)}{σ:L2.St}{H:Hp}{s:Shared}
theorem C1(bs:List Bool):((List.range bs.length).any fun i=>(bs[i]?).getD false)=bs.any id:=by
 rw[Bool.eq_iff_iff,List.any_eq_true,List.any_eq_true]
 constructor
 ·rintro⟨i,hi,e⟩
  rw[List.mem_range] at hi
  rw[List.getElem?_eq_getElem hi] at e
  exact⟨bs[i],List.getElem_mem hi,e⟩
 ·rintro⟨b,hb,e⟩
  obtain⟨i,hi,rfl⟩:=List.mem_iff_getElem.mp hb
  exact⟨i,List.mem_range.mpr hi,by rw[List.getElem?_eq_getElem hi];exact e⟩
theorem Zc4(hc:X.calm=true):Wt X (.builtin "any") (fun xs H Q=>∃l,∃bs:List Bool,xs=[V.ref l]∧SqL X.K H l (bs.map V.bl)∧Q (.bl (bs.any id)) H):=by
 intro pins s σ H xs us Q I r h
 obtain⟨l,bs,rfl,hl,q⟩:=h
 obtain⟨u,rfl,ru⟩:=Q6 r
 cases ru
 obtain⟨its,rv,pl,hz⟩:=I.list hl
 have il:=pl.isList
 have lt:l<s.heap.objs.size:=by obtain⟨o,ho,_⟩:=il;exact Heap.lt_size ho
 have hn:its.length=bs.length:=by rw[←rv.length,List.length_map]
 refine call_any_walk (wpAny_pyIter_list il ?_)
 refine⟨s.heap.objs.size,[s.heap.objs.size,l],[s.heap.objs.size],its.toArray.size,_,_,fun i=>(bs[i]?).getD false,rfl,Walks.list (A:=X.A.in1) (I.ok.hd hc) _ l (Nat.ne_of_lt lt) its.toArray,⟨⟨_,Heap.get?_push_size _ rfl,rfl,rfl⟩,il.push _⟩,fun i v s' Q' E' hP hQ=>?_,fun h' tk hk=>?_⟩
 ·have hv:its[i]?=some v:=by simpa using hP
  have hi:i<bs.length:=by rw[←hn];exact(List.getElem?_eq_some_iff.mp hv).1
  obtain⟨v',e1,e2⟩:=rv.get (show(bs.map V.bl)[i]?=some (.bl bs[i]) by rw[List.getElem?_map,List.getElem?_eq_getElem hi];rfl)
  rw[hv] at e1
  cases e1
  cases e2
  dsimp only at hQ
  rw[List.getElem?_eq_getElem hi] at hQ
  exact wpAny_truthy_bool hQ
 ·rw[List.size_toArray,hn,C1]
  refine⟨.bl _,H,I.kept (t':=tk) fun b o e=>hk b o (fun hm=>?_) (Heap.get?_push_of_some _ e),rfl,q⟩
  rw[List.mem_singleton.mp hm] at e
  exact Nat.lt_irrefl _ (Heap.lt_size e)
theorem Jv:MtM X "list.insert" (fun x vs H Q=>∃l xs,∃i:Nat,∃y,x= .ref l∧vs=[.int i,y]∧H l=some (.lst xs)∧i≤xs.length∧xs.length<sizeLine∧Q .non (upd H l (.lst (xs.take i++y::xs.drop i)))):=by
 intro pins s σ H x vs v us Q I rx rv h
 obtain⟨l,xs,i,y,rfl,rfl,hH,hi,hz,q⟩:=h
 cases rx
 obtain⟨u0,u,rfl,ru0,ru⟩:=rv.two
 obtain⟨t,rfl⟩:∃t,u0=Value.int i t:=ru0
 obtain⟨z,its,n,r,hl,e⟩:=I.lstM hH
 have hf:Builtin.List.listFitsIndex (i:Int)=true:=by
  have hs:=sizeLine_eq
  exact fitsIndex_both (by omega) (by omega)
 generalize hk:((i:Nat):Int)=k at hf
 refine call_meets F.slot_list_insert ⟨_,e,rfl⟩ F.entry_list_insert (F.args_list_insert_3 _ _ _) (PySem.AutoListH.list_insert_list_int_val_1 l its.toArray n k t u (by rw[hf];exact Bool.false_ne_true) (by rw[List.size_toArray];omega)) ⟨e,?_⟩
 refine⟨.non,_,I.lset (its':=its.take i++u::its.drop i) hH e ?_ ?_ ?_,rfl,q⟩
 ·have h1:¬(k<0):=by omega
  have h2:min k.toNat its.toArray.size=i:=by rw[List.size_toArray];omega
  simp only[h1,if_false,h2]
  simp
  exact List.take_of_length_le (by simp)
 ·exact(r.take i).append (.cons ru (r.drop i))
 ·rw[List.length_append,List.length_cons,List.length_take,List.length_drop]
  omega
theorem Jb{prog:Program}{w:World}{A:Around}{E:Value→Shared→Prop}{it t:Addr}{items:Array Value}(hne:t≠it):∀(n i:Nat) (s:Shared) (Q:List Value→Shared→Prop),s.heap.IsListIter it t i→s.heap.IsList t items→i+n≤items.size→
  (∀h',h'.IsListIter it t (i+n)→Heap.SameBut it s.heap h'→Q ((items.toList.drop i).take n) {s with heap:=h'})→wpAny (model prog w) A (draw (.ref it) n) Q E s
 | 0,i,s,Q,hit,_,_,hQ=>by
  show wpAny _ _ (pure []) Q E s
  exact wpAny_pure (by simpa using hQ s.heap hit (Heap.SameBut.refl ..))
 | n+1,i,s,Q,hit,ht,hle,hQ=>by
  have hlt:i<items.size:=by omega
  show wpAny _ _ (pyNext (.ref it) >>=_) Q E s
  refine wpAny_bind (wpAny_pyNext_list_item hit ht (x:=items[i]) (by simp[hlt]) fun h₁ hit₁ hs₁=>?_)
  refine wpAny_bind (wpAny_holding (Jb hne n (i+1) _ _ hit₁ (ht.extBut hs₁.extBut hne) (by omega) fun h₂ hit₂ hs₂=>wpAny_pure ?_))
  have hd:items.toList.drop i=items[i]::items.toList.drop (i+1):=by simp[List.drop_eq_getElem_cons,hlt]
  have:=hQ h₂ (by rw[show i+(n+1)=i+1+n by omega];exact hit₂) (hs₁.trans hs₂)
  rw[hd,List.take_succ_cons] at this
  exact this
theorem R8{prog:Program}{w:World}{A:Around}{E:Value→Shared→Prop}{s:Shared}{t:Addr}{items:Array Value}{Q:List Value→Shared→Prop}(hh:A.handled=none)(ht:s.heap.IsList t items)
  (hQ:∀h',Heap.ExtBut s.heap.objs.size s.heap h'→Q items.toList {s with heap:=h'}):wpAny (model prog w) A (unpackItems (.ref t) items.size none) Q E s:=by
 have hlt:t≠s.heap.objs.size:=by obtain⟨o,ho,_⟩:=ht;exact Nat.ne_of_lt (Heap.lt_size ho)
 unfold unpackItems
 refine wpAny_bind ?_
 ·unfold notIterableAtAll
  refine wpAny_bind (wpAny_specialOf ht.typeIs slot_list_iter.lookup ?_)
  refine wpAny_pure ?_
  simp only[Bool.false_eq_true,if_false]
  refine wpAny_bind (wpAny_holding (wpAny_pyIter_list ht ?_))
  refine wpAny_bind (wpAny_holding (Jb hlt items.size 0 _ _ ⟨_,Heap.get?_push_size _ rfl,rfl,rfl⟩ (ht.push _) (by omega) fun h₁ hit₁ hs₁=>?_))
  have hall:List.take items.size (List.drop 0 items.toList)=items.toList:=by
   rw[List.drop_zero];exact List.take_of_length_le (by simp)
  rw[hall]
  rw[if_neg (by simp)]
  have ht₁:h₁.IsList t items:=(ht.push _).extBut hs₁.extBut hlt
  refine wpAny_bind (wpAny_holding (wpAny_pyNext_list_end hh hit₁ ht₁ (by simp) fun h₂ he₂=>?_))
  simp only[Option.isSome_none,Bool.false_eq_true,if_false]
  refine wpAny_pure (hQ h₂ fun b o hb e=>he₂ b o hb (hs₁.extBut b o hb (Heap.get?_push_of_some _ e)))
noncomputable def gLst(K:PySem.W.Frag)(n:Nat)(t:TGs):TG:=fun v σ H Q=>∃a xs,v= .ref a∧(SqT K H a xs∨SqL K H a xs)∧xs.length=n∧t xs σ H Q
theorem Zy4{es:List Expr}{k:Nat}{pos:Pos}{t:TGs}{n:Nat}(hc:X.calm=true)(h:PGs X es t)
  (hn:(assignEach es X.env).length=n:=by rfl) (hst:(assignEach es X.env).findIdx? (·.1)=none:=by rfl):PG X (.Tuple es k pos) (gLst X.K n t):=by
 intro pins s σ H v u Q I r hw
 obtain⟨a,xs,e1,hq,hl,hw⟩:=hw
 rcases hq with hq | hq
 ·exact Zi6 hc h hn hst pins s σ H v u Q I r ⟨a,xs,e1,hq,hl,hw⟩
 subst e1
 cases r
 obtain⟨its,rv,ht,hz⟩:=I.list hq
 have hsz:its.toArray.size=n:=by rw[List.size_toArray,←rv.length];exact hl
 rw[PyProof.Rows.assign_Tuple]
 refine wpAny_bind (wpAny_standAt ?_)
 unfold unpack
 rw[hn,hst,←hsz]
 refine wpAny_bind (wpAny_holding (R8 (I.ok.hd hc) ht.isList fun h' hx=>?_))
 have I1:Inv X pins σ H {s with heap:=h'}:=I.kept (t':=s.toks) fun b o e=>hx b o (Nat.ne_of_lt (Heap.lt_size e)) e
 exact h pins _ σ H xs _ Q I1 (by simpa using rv) hw
theorem Zg4{Q:VK}(I:Inv X pins σ H s)(hu:X.A.units+64<cLine)(neg:Bool){p b:Addr}{vs:List V}(hp:SqL X.K H p vs)(hb:SqL X.K H b [])(q:Q (.bl (if neg then !vs.isEmpty else vs.isEmpty)) H):
  wpAny (model X.prog X.w) X.A (compareOp (if neg then .NotEq else .Eq) (.ref p) (.ref b)) (EP X pins σ Q) X.xe s:=by
 obtain⟨its,r,pl,_⟩:=I.list hp
 obtain⟨jts,r2,pl2,_⟩:=I.list hb
 have l2:jts=[]:=by cases r2;rfl
 subst l2
 cases vs with
 | nil=>
  cases r
  cases neg with
  | true=>exact SeqAt.RcNeAt.lists (e:=fun _=>true) pl.isList pl2.isList rfl (by omega) (fun j h=>absurd h (Nat.not_lt_zero _)) _ _ _ _ ⟨.bl _,H,I,rfl,q⟩
  | false=>exact SeqAt.RcAt.lists (e:=fun _=>true) pl.isList pl2.isList rfl (by omega) (fun j h=>absurd h (Nat.not_lt_zero _)) _ _ _ _ ⟨.bl _,H,I,rfl,q⟩
 | cons v vs=>
  have hz:(its.toArray.size !=([]:List Value).toArray.size)=true:=by
   cases r
   rfl
  cases neg with
  | true=>exact SeqAt.RcNeAt.lists_lengths pl.isList pl2.isList hz (by omega) _ _ _ _ ⟨.bl _,H,I,rfl,q⟩
  | false=>exact SeqAt.RcAt.lists_lengths pl.isList pl2.isList hz (by omega) _ _ _ _ ⟨.bl _,H,I,rfl,q⟩
theorem Zn3{Q:VK}(I:Inv X pins σ H s)(hu:X.A.units+64<cLine)(neg:Bool){a b:Addr}{vs ys:List V}(ha:SqT X.K H a vs)(hb:SqT X.K H b ys)(fa:vs.all Wa=true)(fb:ys.all Wa=true)(q:Q (.bl (if neg then !eqVs vs ys else eqVs vs ys)) H):
  wpAny (model X.prog X.w) X.A (compareOp (if neg then .NotEq else .Eq) (.ref a) (.ref b)) (EP X pins σ Q) X.xe s:=by
 obtain⟨us,ru,ta,_⟩:=I.tuple ha
 obtain⟨ws,rw',tb,_⟩:=I.tuple hb
 have l1:=ru.length
 have l2:=rw'.length
 have he:∀j (h1:j<us.toArray.size) (h2:j<ws.toArray.size),SeqAt.EqAt X.A.in1 s us.toArray[j] ws.toArray[j] (eqV (vs.getD j .non) (ys.getD j .non)):=fun j h1 h2=>by
  have j1:j<vs.length:=by rw[List.size_toArray] at h1;omega
  have j2:j<ys.length:=by rw[List.size_toArray] at h2;omega
  obtain⟨u,e1,r1⟩:=ru.get (List.getElem?_eq_getElem j1)
  obtain⟨w,e2,r2⟩:=rw'.get (List.getElem?_eq_getElem j2)
  have x1:us.toArray[j]=u:=by have:=(List.getElem?_eq_some_iff.mp e1).2;simpa using this
  have x2:ws.toArray[j]=w:=by have:=(List.getElem?_eq_some_iff.mp e2).2;simpa using this
  rw[x1,x2,List.getD_eq_getElem?_getD,List.getD_eq_getElem?_getD,List.getElem?_eq_getElem j1,List.getElem?_eq_getElem j2]
  rw[List.all_eq_true] at fa fb
  exact Fx r1 r2 (fa _ (List.getElem_mem j1)) (fb _ (List.getElem_mem j2))
 have hs:((List.range (min us.toArray.size ws.toArray.size)).all (fun j=>eqV (vs.getD j .non) (ys.getD j .non))&&us.toArray.size==ws.toArray.size)=eqVs vs ys:=by
  unfold eqVs
  rw[List.size_toArray,List.size_toArray,l1,l2]
 cases neg with
 | true=>exact SeqAt.RcNeAt.tuples (e:=fun j=>eqV (vs.getD j .non) (ys.getD j .non)) ta tb (by omega) he _ _ _ _ ⟨.bl _,H,I,rfl,by rw[hs];exact q⟩
 | false=>exact SeqAt.RcAt.tuples (e:=fun j=>eqV (vs.getD j .non) (ys.getD j .non)) ta tb (by omega) he _ _ _ _ ⟨.bl _,H,I,rfl,by rw[hs];exact q⟩
end
end L3
namespace ZT
open PySem PyProof.Rows
structure Nx(P:Program)(w:World)(i l:Addr)(its:Array Value)(St:Nat→Heap→Prop):Prop where
 obj:∀k h,St k h→∃o,h.get? i=some o∧o.cls≠ .type "zip"∧∀v,o.data≠ .cell v
 stay:∀k h h',St k h→(∀b o,b=i∨b=l→h.get? b=some o→h'.get? b=some o)→St k h'
 item:∀{A:Around} {E:Value→Shared→Prop} {s:Shared} {k:Nat} {x:Value} {Q:Value→Shared→Prop},St k s.heap→its[k]?=some x→(∀h',St (k+1) h'→Heap.SameBut i s.heap h'→Q x {s with heap:=h'})→wpAny (model P w) A (Builtin.SmallTypes.nextOf (.ref i)) Q E s
 done:∀{A:Around} {E:Value→Shared→Prop} {s:Shared} {k:Nat} {Q:Value→Shared→Prop},A.handled=none→St k s.heap→its[k]?=none→(∀h' e,(∀c o,c≠i→s.heap.get? c=some o→h'.get? c=some o)→(∃o,h'.get? e=some o∧o.cls= .type "StopIteration")→E (.ref e) {s with heap:=h'})→wpAny (model P w) A (Builtin.SmallTypes.nextOf (.ref i)) Q E s
section
variable{prog:Program}{w:World}{A:Around}{E:Value→Shared→Prop}{s:Shared}
theorem Nx.tuple{i l:Addr}(hne:l≠i)(its:Array Value):Nx prog w i l its (fun k h=>h.IsTupleIter i l k∧h.IsTuple l its) where
 obj:=fun k h zz61=>by obtain⟨⟨o,e,c,d⟩,_⟩:=zz61;exact⟨o,e,by rw[c];decide,fun v z=>by rw[d] at z;cases z⟩
 stay:=fun k h h' zz62 q=>by obtain⟨⟨o,e,r⟩,⟨u,e2,r2⟩⟩:=zz62;exact⟨⟨o,q i o (.inl rfl) e,r⟩,⟨u,q l u (.inr rfl) e2,r2⟩⟩
 item:=by
  rintro A E s k x Q ⟨a,b⟩ hx q
  obtain⟨o,ho,hc,hd⟩:=id a
  obtain⟨ol,hol,hcl,nl,hdl⟩:=id b
  unfold Builtin.SmallTypes.nextOf
  refine wpAny_bind (wpAny_callSpecial?_slot (name:=Str.ofString "__next__") a.typeIs F.slot_tuple_iterator_next (wpAny_call_entry F.slot_tuple_iterator_next a.typeIs F.entry_tuple_iterator_next ?_ (F.args_tuple_iterator_next_1 _)))
  show wpAny _ _ (field (.ref i) 0 >>=_) _ _ s
  refine wpAny_bind (wpAny_field ho hd (x:= .ref l) rfl ?_)
  show wpAny _ _ (if (Value.ref l==Value.none)=true then _ else _) _ _ s
  rw[if_neg (by exact Bool.false_ne_true)]
  show wpAny _ _ (field (.ref i) 1 >>=_) _ _ s
  refine wpAny_bind (wpAny_field ho hd (x:= .int k 0) rfl ?_)
  show wpAny _ _ (seqItems? (.ref l) >>=_) _ _ s
  refine wpAny_bind (wpAny_seqItems hol hdl ?_)
  simp only[Int.toNat_natCast,hx]
  have sb:=Heap.SameBut.update s.heap i (Obj.mapFields (·.setIfInBounds 1 (rawInt ((k:Int)+1))))
  refine wpAny_bind (wpAny_setField ho hd (by simp) (wpAny_pure ⟨x,rfl,wpAny_pure (q _ ⟨?_,b.extBut sb.extBut hne⟩ sb)⟩))
  exact⟨_,Heap.get?_update_self _ ho (Obj.isFreed_of_fields (Obj.data_mapFields hd _)),(Obj.cls_mapFields ..).trans hc,by rw[Obj.data_mapFields hd];simp[rawInt]⟩
 done:=by
  rintro A E s k Q hh ⟨a,b⟩ hx q
  obtain⟨o,ho,hc,hd⟩:=id a
  obtain⟨ol,hol,hcl,nl,hdl⟩:=id b
  unfold Builtin.SmallTypes.nextOf
  refine wpAny_bind (wpAny_callSpecial?_slot (name:=Str.ofString "__next__") a.typeIs F.slot_tuple_iterator_next (wpAny_call_entry F.slot_tuple_iterator_next a.typeIs F.entry_tuple_iterator_next ?_ (F.args_tuple_iterator_next_1 _)))
  show wpAny _ _ (field (.ref i) 0 >>=_) _ _ s
  refine wpAny_bind (wpAny_field ho hd (x:= .ref l) rfl ?_)
  show wpAny _ _ (if (Value.ref l==Value.none)=true then _ else _) _ _ s
  rw[if_neg (by exact Bool.false_ne_true)]
  show wpAny _ _ (field (.ref i) 1 >>=_) _ _ s
  refine wpAny_bind (wpAny_field ho hd (x:= .int k 0) rfl ?_)
  show wpAny _ _ (seqItems? (.ref l) >>=_) _ _ s
  refine wpAny_bind (wpAny_seqItems hol hdl ?_)
  simp only[Int.toNat_natCast,hx]
  refine wpAny_bind (wpAny_rule (wpAny_bind (wpAny_setField ho hd (by simp) ?_)))
  refine SW.N4 (A:=A.in1) hh fun h' e kp he=>q h' e (fun c u hc2 z=>kp c u ((Heap.SameBut.update ..).extBut c u hc2 z)) he
structure Ap(z TI TO i1 i2 l1 l2:Addr):Prop where
 z1:TI≠z∧TO≠z∧i1≠z∧i2≠z∧l1≠z∧l2≠z
 z2:TI≠TO∧i1≠TO∧i2≠TO∧l1≠TO∧l2≠TO
 z3:TI≠i1∧i2≠i1∧l1≠i1∧l2≠i1
 z4:TI≠i2∧l1≠i2∧l2≠i2
variable{z TI TO i1 i2 l1 l2:Addr}{xs ys:Array Value}{S1 S2:Nat→Heap→Prop}
theorem O0{T:Addr}{a b x:Value}{k:Nat}{Q:Unit→Shared→Prop}(hT:IsPair s.heap T a b)
  (h:∀h',h'.get? T=some {cls:= .type "tuple",data:= .seq ((#[a,b]:Array Value).setIfInBounds k x)}→Heap.SameBut T s.heap h'→Q () {s with heap:=h'}):wpAny (model prog w) A (updateSeq T (·.setIfInBounds k x)) Q E s:=wpAny_updateSeq_pair hT h
theorem Y11{k:Nat}{x y a b:Value}{Q:Value→Shared→Prop}(D:Ap z TI TO i1 i2 l1 l2)(N1:Nx prog w i1 l1 xs S1)(N2:Nx prog w i2 l2 ys S2)
  (hz:IsZip s.heap z TI TO .none) (hI:IsPair s.heap TI (.ref i1) (.ref i2)) (hO:IsPair s.heap TO a b) (h1:S1 k s.heap) (h2:S2 k s.heap) (hx:xs[k]?=some x) (hy:ys[k]?=some y)
  (q:∀h',IsZip h' z TI TO (rawInt s.heap.objs.size)→IsPair h' TO x y→S1 (k+1) h'→S2 (k+1) h'→IsPair h' s.heap.objs.size x y→h'.objs.size=s.heap.objs.size+1→(∀c o,c≠z→c≠TO→c≠i1→c≠i2→s.heap.get? c=some o→h'.get? c=some o)→Q (.ref s.heap.objs.size) {s with heap:=h'}):
  wpAny (model prog w) A (Builtin.«zip.__next__» ⟨[.ref z],[]⟩) (fun fin s'=>∃v,fin= .done (.ret v)∧Q v s') E s:=by
 obtain⟨⟨d1,d2,d3,d4,d5,d6⟩,⟨e1,e2,e3,e4,e5⟩,⟨f1,f2,f3,f4⟩,g1,g2,g3⟩:=D
 show wpAny _ _ (field (.ref z) 2 >>=_) _ _ _
 refine wpAny_bind (wpAny_field (x:= .bool false) hz rfl rfl ?_)
 show wpAny _ _ (field (.ref z) 3 >>=_) _ _ _
 refine wpAny_bind (wpAny_field (x:= .ref TI) hz rfl rfl (wpAny_bind (wpAny_seqItems hI rfl ?_)))
 show wpAny _ _ (Builtin.SmallTypes.ownedTupleIsFree (.ref z) >>=_) _ _ _
 refine wpAny_bind ?_
 unfold Builtin.SmallTypes.ownedTupleIsFree
 refine wpAny_bind (wpAny_field (x:= .none) hz rfl rfl (wpAny_pure ?_))
 simp only[if_true]
 refine wpAny_bind (wpAny_rule (wpAny_bind (wpAny_field (x:= .ref TO) hz rfl rfl (wpAny_bind (wpAny_setField_rec hz (by simp) fun ha za sa=>?_)))))
 replace za:IsZip ha z TI TO .ellipsis:=za
 refine wpAny_bind ?_
 simp only[List.zipIdx_cons,List.zipIdx_nil,List.forIn_cons,List.forIn_nil]
 refine wpAny_bind (wpAny_bind (wpAny_onRaise ?_))
 show wpAny _ _ (Builtin.SmallTypes.nextOf (.ref i1) >>=_) _ _ _
 have h1a:S1 k ha:=N1.stay _ _ _ h1 fun c o hc e=>sa.extBut c o (by rcases hc with rfl | rfl<;>assumption) e
 have h2a:S2 k ha:=N2.stay _ _ _ h2 fun c o hc e=>sa.extBut c o (by rcases hc with rfl | rfl<;>assumption) e
 refine wpAny_bind (N1.item h1a hx fun hb h1b sb=>wpAny_pure ?_)
 have Ob:IsPair hb TO a b:=sb.extBut _ _ (Ne.symm e2) (sa.extBut _ _ d2 hO)
 have h2b:S2 k hb:=N2.stay _ _ _ h2a fun c o hc e=>sb.extBut c o (by rcases hc with rfl | rfl<;>assumption) e
 refine wpAny_bind (wpAny_seqItems Ob rfl (wpAny_bind (O0 Ob fun hc Oc sc=>?_)))
 replace Oc:IsPair hc TO x b:=Oc
 refine wpAny_bind (wpAny_letGo (wpAny_pure ?_))
 refine wpAny_bind (wpAny_bind (wpAny_onRaise ?_))
 show wpAny _ _ (Builtin.SmallTypes.nextOf (.ref i2) >>=_) _ _ _
 have h2c:S2 k hc:=N2.stay _ _ _ h2b fun c o hc e=>sc.extBut c o (by rcases hc with rfl | rfl<;>assumption) e
 have h1c:S1 (k+1) hc:=N1.stay _ _ _ h1b fun c o hc e=>sc.extBut c o (by rcases hc with rfl | rfl<;>assumption) e
 refine wpAny_bind (N2.item h2c hy fun hd h2d sd=>wpAny_pure ?_)
 have Od:IsPair hd TO x b:=sd.extBut _ _ (Ne.symm e3) Oc
 have h1d:S1 (k+1) hd:=N1.stay _ _ _ h1c fun c o hc e=>sd.extBut c o (by rcases hc with rfl | rfl;exact Ne.symm f2;assumption) e
 refine wpAny_bind (wpAny_seqItems Od rfl (wpAny_bind (O0 Od fun he Oe se=>?_)))
 replace Oe:IsPair he TO x y:=Oe
 refine wpAny_bind (wpAny_letGo (wpAny_pure (wpAny_pure ?_)))
 refine wpAny_bind (wpAny_seqItems Oe rfl (wpAny_bind (wpAny_newTuple ?_)))
 have h1e:S1 (k+1) he:=N1.stay _ _ _ h1d fun c o hc e=>se.extBut c o (by rcases hc with rfl | rfl<;>assumption) e
 have h2e:S2 (k+1) he:=N2.stay _ _ _ h2d fun c o hc e=>se.extBut c o (by rcases hc with rfl | rfl<;>assumption) e
 have sz:he.objs.size=s.heap.objs.size:=by rw[se.1,sd.1,sc.1,sb.1,sa.1]
 have ze:IsZip he z TI TO .ellipsis:=se.extBut _ _ (Ne.symm d2) (sd.extBut _ _ (Ne.symm d4) (sc.extBut _ _ (Ne.symm d2) (sb.extBut _ _ (Ne.symm d3) za)))
 have ke:∀c o,c≠z→c≠TO→c≠i1→c≠i2→s.heap.get? c=some o→he.get? c=some o:=fun c o c1 c2 c3 c4 e=>
  se.extBut _ _ c2 (sd.extBut _ _ c4 (sc.extBut _ _ c2 (sb.extBut _ _ c3 (sa.extBut _ _ c1 e))))
 have lz:z<he.objs.size:=Heap.lt_size ze
 show wpAny _ _ (Builtin.SmallTypes.ownedTupleHandOut (.ref z) (.ref he.objs.size) >>=_) _ _ _
 refine wpAny_bind ?_
 unfold Builtin.SmallTypes.ownedTupleHandOut
 have zf:IsZip (he.push {cls:= .type "tuple",data:= .seq #[x,y]}) z TI TO .ellipsis:=Heap.get?_push_of_some _ ze
 refine wpAny_bind (wpAny_setField_rec zf (by simp) fun hg zg sg=>?_)
 replace zg:IsZip hg z TI TO (rawInt he.objs.size):=zg
 refine wpAny_setField_rec zg (by simp) fun hh zh sh=>?_
 replace zh:IsZip hh z TI TO (rawInt he.objs.size):=zh
 have up:∀c o,c≠z→he.get? c=some o→hh.get? c=some o:=fun c o c1 e=>sh.extBut _ _ c1 (sg.extBut _ _ c1 (Heap.get?_push_of_some _ e))
 have Th:IsPair hh he.objs.size x y:=sh.extBut _ _ (Nat.ne_of_gt lz) (sg.extBut _ _ (Nat.ne_of_gt lz) (Heap.get?_push_size _ rfl))
 have zs:hh.objs.size=he.objs.size+1:=by rw[sh.1,sg.1,Heap.size_push]
 rw[sz] at zh Th zs
 refine wpAny_pure ⟨_,rfl,?_⟩
 show Q (.ref he.objs.size) _
 rw[sz]
 exact q hh zh (up _ _ d2 Oe) (N1.stay _ _ _ h1e fun c o hc e=>up c o (by rcases hc with rfl | rfl<;>assumption) e) (N2.stay _ _ _ h2e fun c o hc e=>up c o (by rcases hc with rfl | rfl<;>assumption) e) Th zs fun c o c1 c2 c3 c4 e=>up c o c1 (ke c o c1 c2 c3 c4 e)
theorem Y17{k:Nat}{a b:Value}{Q:Fin→Shared→Prop}(hh:A.handled=none)(D:Ap z TI TO i1 i2 l1 l2)(N1:Nx prog w i1 l1 xs S1)(N2:Nx prog w i2 l2 ys S2)
  (hz:IsZip s.heap z TI TO .none) (hI:IsPair s.heap TI (.ref i1) (.ref i2)) (hO:IsPair s.heap TO a b) (h1:S1 k s.heap) (h2:S2 k s.heap) (hend:xs[k]?=none∨ys[k]?=none)
  (q:∀h' e,(∀c o,c≠z→c≠TO→c≠i1→c≠i2→s.heap.get? c=some o→h'.get? c=some o)→(∃o,h'.get? e=some o∧o.cls= .type "StopIteration")→E (.ref e) {s with heap:=h'}):
  wpAny (model prog w) A (Builtin.«zip.__next__» ⟨[.ref z],[]⟩) Q E s:=by
 obtain⟨⟨d1,d2,d3,d4,d5,d6⟩,⟨e1,e2,e3,e4,e5⟩,⟨f1,f2,f3,f4⟩,g1,g2,g3⟩:=D
 show wpAny _ _ (field (.ref z) 2 >>=_) _ _ _
 refine wpAny_bind (wpAny_field (x:= .bool false) hz rfl rfl ?_)
 show wpAny _ _ (field (.ref z) 3 >>=_) _ _ _
 refine wpAny_bind (wpAny_field (x:= .ref TI) hz rfl rfl (wpAny_bind (wpAny_seqItems hI rfl ?_)))
 show wpAny _ _ (Builtin.SmallTypes.ownedTupleIsFree (.ref z) >>=_) _ _ _
 refine wpAny_bind ?_
 unfold Builtin.SmallTypes.ownedTupleIsFree
 refine wpAny_bind (wpAny_field (x:= .none) hz rfl rfl (wpAny_pure ?_))
 simp only[if_true]
 refine wpAny_bind (wpAny_rule (wpAny_bind (wpAny_field (x:= .ref TO) hz rfl rfl (wpAny_bind (wpAny_setField_rec hz (by simp) fun ha za sa=>?_)))))
 replace za:IsZip ha z TI TO .ellipsis:=za
 refine wpAny_bind ?_
 simp only[List.zipIdx_cons,List.zipIdx_nil,List.forIn_cons,List.forIn_nil]
 refine wpAny_bind (wpAny_bind (wpAny_onRaise ?_))
 show wpAny _ _ (Builtin.SmallTypes.nextOf (.ref i1) >>=_) _ _ _
 have h1a:S1 k ha:=N1.stay _ _ _ h1 fun c o hc e=>sa.extBut c o (by rcases hc with rfl | rfl<;>assumption) e
 have h2a:S2 k ha:=N2.stay _ _ _ h2 fun c o hc e=>sa.extBut c o (by rcases hc with rfl | rfl<;>assumption) e
 have fin:∀(h2:Heap) (e:Addr),IsZip h2 z TI TO .ellipsis→(∀c o,c≠z→c≠TO→c≠i1→c≠i2→s.heap.get? c=some o→h2.get? c=some o)→(∃o,h2.get? e=some o∧o.cls= .type "StopIteration")→wpAny (model prog w) A (setField (.ref z) 0 .none) (fun _ s'=>E (.ref e) s') E {s with heap:=h2}:=by
  rintro h2 e zz kp ⟨o,ho,hc⟩
  refine wpAny_setField_rec zz (by simp) fun h3 _ s3=>q h3 e (fun c o c1 c2 c3 c4 x=>s3.extBut _ _ c1 (kp c o c1 c2 c3 c4 x)) ⟨o,s3.extBut _ _ ?_ ho,hc⟩
  rintro rfl
  rw[zz] at ho
  cases ho
  exact absurd (show Value.type "zip"=Value.type "StopIteration" from hc) (by decide)
 cases hx:xs[k]? with
 | none=>
  refine wpAny_bind (N1.done (s:={s with heap:=ha}) hh h1a hx fun hb e kb he=>?_)
  exact fin hb e (kb _ _ (Ne.symm d3) za) (fun c o c1 _ c3 _ x=>kb _ _ c3 (sa.extBut _ _ c1 x)) he
 | some x=>
  have hy:ys[k]?=none:=hend.resolve_left (by rw[hx];intro z;cases z)
  refine wpAny_bind (N1.item (s:={s with heap:=ha}) h1a hx fun hb h1b sb=>wpAny_pure ?_)
  have Ob:IsPair hb TO a b:=sb.extBut _ _ (Ne.symm e2) (sa.extBut _ _ d2 hO)
  have h2b:S2 k hb:=N2.stay _ _ _ h2a fun c o hc e=>sb.extBut c o (by rcases hc with rfl | rfl<;>assumption) e
  refine wpAny_bind (wpAny_seqItems Ob rfl (wpAny_bind (O0 Ob fun hc Oc sc=>?_)))
  refine wpAny_bind (wpAny_letGo (wpAny_pure ?_))
  refine wpAny_bind (wpAny_bind (wpAny_onRaise ?_))
  show wpAny _ _ (Builtin.SmallTypes.nextOf (.ref i2) >>=_) _ _ _
  have h2c:S2 k hc:=N2.stay _ _ _ h2b fun c o hc e=>sc.extBut c o (by rcases hc with rfl | rfl<;>assumption) e
  have zc:IsZip hc z TI TO .ellipsis:=sc.extBut _ _ (Ne.symm d2) (sb.extBut _ _ (Ne.symm d3) za)
  refine wpAny_bind (N2.done (s:={s with heap:=hc}) hh h2c hy fun hd e kd he=>?_)
  exact fin hd e (kd _ _ (Ne.symm d4) zc) (fun c o c1 c2 c3 c4 x=>kd _ _ c4 (sc.extBut _ _ c2 (sb.extBut _ _ c3 (sa.extBut _ _ c1 x)))) he
end
noncomputable abbrev zh1(h:Heap)(t:Addr):Heap:=h.push {cls:= .type "tuple_iterator",data:= .fields #[.ref t,.int 0 0]}
noncomputable abbrev zh2(h:Heap)(t l:Addr):Heap:=(zh1 h t).push {cls:= .type "tuple_iterator",data:= .fields #[.ref l,.int 0 0]}
noncomputable abbrev zh3(h:Heap)(t l:Addr):Heap:=(zh2 h t l).push {cls:= .type "tuple",data:= .seq #[.ref h.objs.size,.ref (zh1 h t).objs.size]}
noncomputable abbrev zh4(h:Heap)(t l:Addr):Heap:=(zh3 h t l).push {cls:= .type "tuple",data:= .seq #[.none,.none]}
noncomputable abbrev zh5(h:Heap)(t l:Addr):Heap:=(zh4 h t l).push {cls:= .type "zip",data:= .fields #[.none,.bool false,.bool false,.ref (zh2 h t l).objs.size,.ref (zh3 h t l).objs.size]}
theorem Y00(t l:Addr)(xs ys:Array Value):Meets (Builtin.«zip.__new__» ⟨[.type "zip",.ref t,.ref l],[]⟩) (fun _ R s=>s.heap.IsTuple t xs∧s.heap.IsTuple l ys∧R (.ok (.ret (.ref (zh4 s.heap t l).objs.size))) {s with heap:=zh5 s.heap t l}):=
 .of_wp fun prog w A R s h=>by
  obtain⟨hp,g,d,tk,os⟩:=s
  obtain⟨ht,hl,h⟩:=h
  have sub0:=sub_zip
  have hT:Heap.IsTuple (Shared.heap ⟨hp,g,d,tk,os⟩) t xs:=ht
  have hL:Heap.IsTuple (Shared.heap ⟨hp.push {cls:= .type "tuple_iterator",data:= .fields #[.ref t,.int 0 0]},g,d,tk,os⟩) l ys:=Heap.IsTuple.push hl _
  wp_walk using wpAny_pyIter_tuple hT,wpAny_pyIter_tuple hL
  exact⟨_,rfl,h⟩
section
variable{prog:Program}{w:World}{A:Around}{E:Value→Shared→Prop}{s:Shared}
theorem zt_call{t l:Addr}{xs ys:Array Value}{Q:Value→Shared→Prop}(ht:s.heap.IsTuple t xs)(hl:s.heap.IsTuple l ys)
  (h:∀h',IsZip h' (s.heap.objs.size+4) (s.heap.objs.size+2) (s.heap.objs.size+3) .none→IsPair h' (s.heap.objs.size+2) (.ref s.heap.objs.size) (.ref (s.heap.objs.size+1))→IsPair h' (s.heap.objs.size+3) .none .none→
   h'.IsTupleIter s.heap.objs.size t 0→h'.IsTupleIter (s.heap.objs.size+1) l 0→(∀c o,s.heap.get? c=some o→h'.get? c=some o)→Q (.ref (s.heap.objs.size+4)) {s with heap:=h'}):
  wpAny (model prog w) A (call (.type "zip") [.ref t,.ref l]) Q E s:=by
 refine callType_new F.called_zip (by decide) (F.typeCall_zip_2 _ _) (F.newCall_zip_2 _ _) (fun obj=>F.args_object_init_3 obj _ _) F.entry_zip_new (Y00 t l xs ys) ⟨ht,hl,?_⟩
 have z1:(zh1 s.heap t).objs.size=s.heap.objs.size+1:=Heap.size_push ..
 have z2:(zh2 s.heap t l).objs.size=s.heap.objs.size+2:=by rw[Heap.size_push,z1]
 have z3:(zh3 s.heap t l).objs.size=s.heap.objs.size+3:=by rw[Heap.size_push,z2]
 have z4:(zh4 s.heap t l).objs.size=s.heap.objs.size+4:=by rw[Heap.size_push,z3]
 have up:∀{h:Heap} {o:Obj} {c:Addr} {u:Obj},h.get? c=some u→(h.push o).get? c=some u:=fun e=>Heap.get?_push_of_some _ e
 have g5:(zh5 s.heap t l).get? (zh4 s.heap t l).objs.size=some _:=Heap.get?_push_size _ rfl
 have g4:(zh5 s.heap t l).get? (zh3 s.heap t l).objs.size=some _:=up (Heap.get?_push_size _ rfl)
 have g3:(zh5 s.heap t l).get? (zh2 s.heap t l).objs.size=some _:=up (up (Heap.get?_push_size _ rfl))
 have g2:(zh5 s.heap t l).get? (zh1 s.heap t).objs.size=some _:=up (up (up (Heap.get?_push_size _ rfl)))
 have g1:(zh5 s.heap t l).get? s.heap.objs.size=some _:=up (up (up (up (Heap.get?_push_size _ rfl))))
 show _∧_
 rw[z2,z3,z4] at g5
 rw[z1,z2] at g3
 rw[z3] at g4
 rw[z1] at g2
 rw[z4]
 exact⟨⟨_,g5,rfl⟩,h _ g5 g3 g4 ⟨_,g1,rfl,rfl⟩ ⟨_,g2,rfl,rfl⟩ fun c o e=>up (up (up (up (up e))))⟩
variable{z TI TO i1 i2 l1 l2:Addr}{xs ys:Array Value}{S1 S2:Nat→Heap→Prop}
theorem zn_item{k:Nat}{x y a b:Value}{Q:Option Value→Shared→Prop}(D:Ap z TI TO i1 i2 l1 l2)(N1:Nx prog w i1 l1 xs S1)(N2:Nx prog w i2 l2 ys S2)
  (hz:IsZip s.heap z TI TO .none) (hI:IsPair s.heap TI (.ref i1) (.ref i2)) (hO:IsPair s.heap TO a b) (h1:S1 k s.heap) (h2:S2 k s.heap) (hx:xs[k]?=some x) (hy:ys[k]?=some y)
  (q:∀h',IsZip h' z TI TO (rawInt s.heap.objs.size)→IsPair h' TO x y→S1 (k+1) h'→S2 (k+1) h'→IsPair h' s.heap.objs.size x y→h'.objs.size=s.heap.objs.size+1→(∀c o,c≠z→c≠TO→c≠i1→c≠i2→s.heap.get? c=some o→h'.get? c=some o)→Q (some (.ref s.heap.objs.size)) {s with heap:=h'}):
  wpAny (model prog w) A (pyNext (.ref z)) Q E s:=by
 have hT:s.TypeIs (.ref z) "zip":=⟨_,hz,rfl⟩
 unfold pyNext
 exact wpAny_bind (wpAny_attempt (wpAny_callSpecial?_slot (name:=Str.ofString "__next__") hT F.slot_zip_next (wpAny_call_entry F.slot_zip_next hT F.entry_zip_next (Y11 D N1 N2 hz hI hO h1 h2 hx hy fun h' a1 a2 a3 a4 a5 a6 a7=>wpAny_pure (q h' a1 a2 a3 a4 a5 a6 a7)) (F.args_zip_next_1 _))))
theorem zn_end{k:Nat}{a b:Value}{Q:Option Value→Shared→Prop}(hh:A.handled=none)(D:Ap z TI TO i1 i2 l1 l2)(N1:Nx prog w i1 l1 xs S1)(N2:Nx prog w i2 l2 ys S2)
  (hz:IsZip s.heap z TI TO .none) (hI:IsPair s.heap TI (.ref i1) (.ref i2)) (hO:IsPair s.heap TO a b) (h1:S1 k s.heap) (h2:S2 k s.heap) (hend:xs[k]?=none∨ys[k]?=none)
  (q:∀h',(∀c o,c≠z→c≠TO→c≠i1→c≠i2→s.heap.get? c=some o→h'.get? c=some o)→Q none {s with heap:=h'}):wpAny (model prog w) A (pyNext (.ref z)) Q E s:=by
 have hT:s.TypeIs (.ref z) "zip":=⟨_,hz,rfl⟩
 unfold pyNext
 refine wpAny_bind (wpAny_attempt (wpAny_callSpecial?_slot (name:=Str.ofString "__next__") hT F.slot_zip_next (wpAny_call_entry F.slot_zip_next hT F.entry_zip_next (Y17 (A:=A.in1) hh D N1 N2 hz hI hO h1 h2 hend fun h' e hk he=>?_) (F.args_zip_next_1 _))))
 obtain⟨o,ho,hc⟩:=he
 exact wpAny_bind (wpAny_isInstance (T:="StopIteration") (b:=true) ⟨o,ho,hc⟩ isSubtype_stop (wpAny_pure (q _ hk)))
end
end ZT
namespace L3
open PySem PySem.Spec PyProof.Rows L2
section
variable{X:Cx}
noncomputable def Itzt(K:PySem.W.Frag)(a b:Addr)(xs ys:List V):It:=
 ⟨fun i H=>∃x y,SqT K H a xs∧SqT K H b ys∧xs[i]?=some x∧ys[i]?=some y,
  fun i H x H'=>∃p u v,H p=none∧H'=upd H p (.tup [u,v])∧x= .ref p∧xs[i]?=some u∧ys[i]?=some v,
  fun i H=>SqT K H a xs∧SqT K H b ys∧(xs.length≤i∨ys.length≤i)⟩
theorem Z01{P:Program}{w:World}{K:PySem.W.Frag}{elts:List Expr}{x1:Nat}{tp:Pos}{z TI TO i1 i2 a b:Addr}{xs ys:List V}(D:ZT.Ap z TI TO i1 i2 a b):
  Turn P w K (.Tuple elts x1 tp) (Itzt K a b xs ys) [z,TI,TO,i1,i2] z (fun i h=>IsZip h z TI TO .none∧IsPair h TI (.ref i1) (.ref i2)∧(∃u v,IsPair h TO u v)∧h.IsTupleIter i1 a i∧h.IsTupleIter i2 b i) where
 mem:=by simp
 obj:=by
  rintro i h ⟨hz,hTI,⟨u,v,hTO⟩,⟨o1,e1,_,d1⟩,⟨o2,e2,_,d2⟩⟩ c hc
  simp only[List.mem_cons,List.not_mem_nil,or_false] at hc
  rcases hc with rfl | rfl | rfl | rfl | rfl
  ·exact⟨_,hz,fun v q=>by cases q⟩
  ·exact⟨_,hTI,fun v q=>by cases q⟩
  ·exact⟨_,hTO,fun v q=>by cases q⟩
  ·exact⟨_,e1,fun v q=>by rw[d1] at q;cases q⟩
  ·exact⟨_,e2,fun v q=>by rw[d2] at q;cases q⟩
 keep:=by
  rintro i h h' ⟨hz,hTI,⟨u,v,hTO⟩,⟨o,e,r⟩,⟨o2,e2,r2⟩⟩ k
  exact⟨k z (by simp) _ hz,k TI (by simp) _ hTI,⟨u,v,k TO (by simp) _ hTO⟩,⟨o,k i1 (by simp) _ e,r⟩,⟨o2,k i2 (by simp) _ e2,r2⟩⟩
 item:=by
  rintro X rfl rfl rfl hc i pins s σ H E I hf ⟨hz,hTI,⟨u0,v0,hTO⟩,h1,h2⟩ ⟨x,y,hq,hr,hx,hy⟩
  obtain⟨its,rv,p,_⟩:=I.tuple hq
  obtain⟨jts,rw2,p2,_⟩:=I.tuple hr
  obtain⟨u,hu,ru⟩:=rv.get hx
  obtain⟨v,hv,rv2⟩:=rw2.get hy
  have lt:∀c∈[z,TI,TO,i1,i2],@LT.lt Nat _ c s.heap.objs.size:=by
   intro c hc
   simp only[List.mem_cons,List.not_mem_nil,or_false] at hc
   obtain⟨o1,e1,_⟩:=id h1
   obtain⟨o2,e2,_⟩:=id h2
   rcases hc with rfl | rfl | rfl | rfl | rfl
   ·exact Heap.lt_size hz
   ·exact Heap.lt_size hTI
   ·exact Heap.lt_size hTO
   ·exact Heap.lt_size e1
   ·exact Heap.lt_size e2
  refine ZT.zn_item D (ZT.Nx.tuple D.z3.2.2.1 its.toArray) (ZT.Nx.tuple D.z4.2.2 jts.toArray) hz hTI hTO ⟨h1,p⟩ ⟨h2,p2⟩ (x:=u) (y:=v) (by simpa using hu) (by simpa using hv) fun hh ho hTO2 g1 g2 hT hsz hk=>?_
  refine⟨_,rfl,wpAny_letOwnedTupleGo_zip ho fun h3 hz3 hs3=>?_⟩
  replace hs3:Heap.SameBut z hh h3:=hs3
  obtain⟨⟨a1,a2,a3,a4,a5,a6⟩,⟨b1,b2,b3,b4,b5⟩,⟨c1,c2,c3,c4⟩,e1,e2,e3⟩:=D
  have nz:s.heap.objs.size≠z:=Nat.ne_of_gt (lt z (by simp))
  have hT3:h3.get? s.heap.objs.size=some {cls:= .type "tuple",data:= .seq #[u,v]}:=(hs3.2 _ nz).trans hT
  have hn:H s.heap.objs.size=none:=I.hok.fresh (Nat.le_refl _)
  have I1:Inv X pins σ (upd H s.heap.objs.size (.tup [x,y])) {s with heap:=s.heap.push {cls:= .type "tuple",data:= .seq #[u,v]},toks:=s.toks}:=
   I.laid (fun b ob q=>Heap.get?_push_of_some _ q) (Nat.le_refl _) ⟨show 2≤sizeLine by rw[sizeLine_eq];omega,[u,v],.cons ru (.cons rv2 .nil),⟨_,Heap.get?_push_size _ rfl,rfl,_,rfl⟩⟩
  have up:∀c∈[z,TI,TO,i1,i2],FpOk X pins (upd H s.heap.objs.size (.tup [x,y])) c:=by
   intro c hc
   refine⟨?_,(hf c hc).2⟩
   rw[Zs (Nat.ne_of_lt (lt c hc))]
   exact(hf c hc).1
  have I2:=Ol (h':=h3) (t':=s.toks) I1 (fun c o hc e'=>by
   simp only[List.mem_cons,List.not_mem_nil,or_false,not_or] at hc
   rcases S7 e' with q | q
   ·exact(hs3.2 c hc.1).trans (hk c o hc.1 hc.2.2.1 hc.2.2.2.1 hc.2.2.2.2 q)
   ·subst q
    have z2:(s.heap.push {cls:= .type "tuple",data:= .seq #[u,v]}).get? s.heap.objs.size=some o:=e'
    rw[Heap.get?_push_size _ rfl] at z2
    cases z2
    exact hT3) up
  obtain⟨q1,q2,q3⟩:=g1.1
  obtain⟨q4,q5,q6⟩:=g2.1
  refine⟨.ref s.heap.objs.size,_,I2,rfl,⟨_,x,y,hn,rfl,rfl,hx,hy⟩,
   ⟨hz3,(hs3.2 TI a1).trans (hk TI _ a1 b1 c1 e1 hTI),⟨_,_,(hs3.2 TO a2).trans hTO2⟩,⟨q1,(hs3.2 i1 a3).trans q2,q3⟩,⟨q4,(hs3.2 i2 a4).trans q5,q6⟩⟩,fun c hc=>(up c hc).1⟩
 done:=by
  rintro X rfl rfl rfl hc i pins s σ H E I hf ⟨hz,hTI,⟨u0,v0,hTO⟩,h1,h2⟩ ⟨hq,hr,hl⟩
  obtain⟨its,rv,p,_⟩:=I.tuple hq
  obtain⟨jts,rw2,p2,_⟩:=I.tuple hr
  have l1:=rv.length
  have l2:=rw2.length
  refine ZT.zn_end (I.ok.hd hc) D (ZT.Nx.tuple D.z3.2.2.1 its.toArray) (ZT.Nx.tuple D.z4.2.2 jts.toArray) hz hTI hTO ⟨h1,p⟩ ⟨h2,p2⟩ ?_ fun h' eb=>⟨rfl,Ol (t':=s.toks) I (ch:=[z,TI,TO,i1,i2]) (fun c o hc e=>?_) hf⟩
  ·rcases hl with hl | hl
   ·exact .inl (by simp;omega)
   ·exact .inr (by simp;omega)
  ·simp only[List.mem_cons,List.not_mem_nil,or_false,not_or] at hc
   exact eb c o hc.1 hc.2.2.1 hc.2.2.2.1 hc.2.2.2.2 e
 self:=by
  rintro A i s Q E ⟨hz,_⟩ h
  exact wpAny_pyIter_zip hz h
def Y29(K:PySem.W.Frag)(ta:TA):TI:=fun σ H R=>ta σ H fun vs H1=>(∃a b,vs=[V.ref a,V.ref b]∧(∃xs,SqL K H1 a xs)∧(∃ys,SqL K H1 b ys)∧R (Itz K a b) H1)∨(∃a b xs ys,vs=[V.ref a,V.ref b]∧SqT K H1 a xs∧SqT K H1 b ys∧R (Itzt K a b xs ys) H1)
theorem Zn4{elts:List Expr}{x1:Nat}{tp:Pos}{l:Expr}{ls:List Expr}{ta:TA}{p pos:Pos}(hg:Gl X "zip")(hm:X.mg "zip"=none)(ha:PA X (l::ls) ta)(he:starEach (l::ls) X.env=(false,eval l X.env)::starEach ls X.env)(hpl:(backTo pos (starEach ls X.env)).any (·.1)=false):
  PI X (.Tuple elts x1 tp) (.Call (.Name "zip" p) (l::ls) [] pos) (Y29 X.K ta):=by
 intro pins s σ H R I h
 refine wpAny_Call_Name_kw (Q3 I hg hm (u:= .type "zip") (by kernel_rfl) ?_)
 refine PyProof.Rows.callWith_type1 (thn (ha pos pins s σ H _ I h) fun us s1 zz63=>?_) he hpl
 obtain⟨vs,H1,I1,rv,q⟩:=zz63
 have hb:∀c∈[s1.heap.objs.size+4,s1.heap.objs.size+2,s1.heap.objs.size+3,s1.heap.objs.size,s1.heap.objs.size+1],@LE.le Nat _ s1.heap.objs.size c:=by
  intro c hc
  simp only[List.mem_cons,List.not_mem_nil,or_false] at hc
  rcases hc with rfl | rfl | rfl | rfl | rfl
  ·exact Nat.le_add_right _ _
  ·exact Nat.le_add_right _ _
  ·exact Nat.le_add_right _ _
  ·exact Nat.le_refl _
  ·exact Nat.le_add_right _ _
 rcases q with⟨a,b,ev,⟨xs,hp⟩,⟨ys,hq⟩,q⟩ | ⟨a,b,xs,ys,ev,hp,hq,q⟩
 ·subst ev
  obtain⟨u1,u2,rfl,e1,e2⟩:=Ga rv
  cases e1
  cases e2
  obtain⟨us,r1,pl1,z1⟩:=I1.list hp
  obtain⟨ws,r2,pl2,z2⟩:=I1.list hq
  have L1:=pl1.isList
  have L2:=pl2.isList
  have lt1:@LT.lt Nat _ a s1.heap.objs.size:=by obtain⟨o,e,_⟩:=L1;exact Heap.lt_size e
  have lt2:@LT.lt Nat _ b s1.heap.objs.size:=by obtain⟨o,e,_⟩:=L2;exact Heap.lt_size e
  refine call_zip_2 L1 L2 fun h' a1 a2 a3 a4 a5 a6 kp=>wpAny_pyIter_zip a1 ?_
  have D:ZipApart (s1.heap.objs.size+4) (s1.heap.objs.size+2) (s1.heap.objs.size+3) s1.heap.objs.size (s1.heap.objs.size+1) a b:=by
   constructor<;>(show(_:Nat)≠_)<;>omega
  exact⟨s1.heap.objs.size+4,[s1.heap.objs.size+4,s1.heap.objs.size+2,s1.heap.objs.size+3,s1.heap.objs.size,s1.heap.objs.size+1],_,_,H1,rfl,I1.kept (t':=s1.toks) kp,Zf1 _ _ _ _ _ a b D,⟨a1,a2,⟨_,_,a3⟩,a4,a5⟩,fun c hc=>I1.fpOk (hb c hc) (I1.hok.fresh (hb c hc)),q⟩
 ·subst ev
  obtain⟨u1,u2,rfl,e1,e2⟩:=Ga rv
  cases e1
  cases e2
  obtain⟨us,r1,pl1,z1⟩:=I1.tuple hp
  obtain⟨ws,r2,pl2,z2⟩:=I1.tuple hq
  have lt1:@LT.lt Nat _ a s1.heap.objs.size:=by obtain⟨o,e,_⟩:=pl1;exact Heap.lt_size e
  have lt2:@LT.lt Nat _ b s1.heap.objs.size:=by obtain⟨o,e,_⟩:=pl2;exact Heap.lt_size e
  refine ZT.zt_call pl1 pl2 fun h' a1 a2 a3 a4 a5 kp=>wpAny_pyIter_zip a1 ?_
  have D:ZT.Ap (s1.heap.objs.size+4) (s1.heap.objs.size+2) (s1.heap.objs.size+3) s1.heap.objs.size (s1.heap.objs.size+1) a b:=by
   refine⟨⟨?_,?_,?_,?_,?_,?_⟩,⟨?_,?_,?_,?_,?_⟩,⟨?_,?_,?_,?_⟩,?_,?_,?_⟩<;>(show(_:Nat)≠_)<;>omega
  exact⟨s1.heap.objs.size+4,[s1.heap.objs.size+4,s1.heap.objs.size+2,s1.heap.objs.size+3,s1.heap.objs.size,s1.heap.objs.size+1],_,_,H1,rfl,I1.kept (t':=s1.toks) kp,Z01 D,⟨a1,a2,⟨_,_,a3⟩,a4,a5⟩,fun c hc=>I1.fpOk (hb c hc) (I1.hok.fresh (hb c hc)),q⟩
end
end L3
namespace U
open PySem PySem.Spec PyProof.Rows L2 L3
inductive D where
 | non | bl (b:Bool) | int (i:Int) | str (x:Str) | tup (ds:List D) | ref (n:Nat) | ty (n:String) | gtup (ds:List D) | cls (a:Addr) | exn (e C dx:Addr) (row:D)
inductive Cell where
 | lst (ds:List D) | frz (ds:List D) | dct (kvs:List (Key×D)) | fdc (kvs:List (Key×D))
noncomputable abbrev Z2:=List Cell
noncomputable abbrev DEnv:=List (Option D)
abbrev DK:=D→Z2→Prop
abbrev DX:=Addr→D→Z2→Prop
abbrev DE:=DEnv→Z2→DK→Prop
abbrev DA:=DEnv→Z2→(List D→Z2→Prop)→Prop
abbrev DT:=DEnv→Z2→(Bool→Z2→Prop)→Prop
abbrev DSp:=List D→Z2→DK→DX→Prop
structure DEnds where
 nx:DEnv→Z2→Prop
 rt:DK
 bk:DEnv→Z2→Prop:=fun _ _=>False
 ct:DEnv→Z2→Prop:=fun _ _=>False
abbrev DS:=DEnds→DEnv→Z2→Prop
structure Vw where
 K:PySem.W.Frag
 H:Hp
 μ:Nat→Addr
 n:Nat
mutual
def RD(w:Vw):D→V→Prop
 | .non,v=>v= .non
 | .bl b,v=>v= .bl b
 | .int i,v=>v= .int i
 | .str x,v=>v= .str x
 | .tup ds,v=>∃a vs,v= .ref a∧w.H a=some (.tup vs)∧RDs w ds vs
 | .ref i,v=>i<w.n∧v= .ref (w.μ i)
 | .ty n,v=>v= .ty n
 | .gtup ds,v=>∃a vs,v= .ref a∧SqT w.K w.H a vs∧RDs w ds vs
 | .cls a,v=>v= .ref a
 | .exn e C dx row,v=>v= .ref e∧w.H e=some (XO e (.ref C) (some dx))∧∃r,w.H dx=some (.xd [("row",r)])∧RD w row r
def RDs(w:Vw):List D→List V→Prop
 | [],vs=>vs=[]
 | d::ds,vs=>∃v r,vs=v::r∧RD w d v∧RDs w ds r
end
def RKV(w:Vw):List (Key×D)→List (Key×V)→Prop
 | [],vs=>vs=[]
 |(k,d)::ds,vs=>∃v r,vs=(k,v)::r∧RD w d v∧RKV w ds r
def SqF(K:PySem.W.Frag)(H:Hp)(a:Addr)(vs:List V):Prop:=(∃o,H a=some (.frz o (.lst vs)))∨SqL K (fun _=>none) a vs
noncomputable def Cell.mut:Cell→Bool
 | .frz _=>false
 | _=>true
def O7(w:Vw):Cell→Addr→Prop
 | .lst ds,a=>∃vs,w.H a=some (.lst vs)∧RDs w ds vs
 | .frz ds,a=>∃vs,SqF w.K w.H a vs∧RDs w ds vs
 | .dct kvs,a=>∃vs,w.H a=some (.dK vs)∧RKV w kvs vs
 | .fdc kvs,a=>∃o vs,w.H a=some (.frz o (.dK vs))∧RKV w kvs vs
structure RS(w:Vw)(M:Z2):Prop where
 len:w.n=M.length
 inj:∀(i j:Nat) (ci cj:Cell),M[i]?=some ci→M[j]?=some cj→ci.mut=true→cj.mut=true→w.μ i=w.μ j→i=j
 cell:∀i c,M[i]?=some c→O7 w c (w.μ i)
noncomputable def Imm:HO→Bool
 | .tup _ | .xd _ | .ext _ | .frz _ _=>true
 | _=>false
structure Ext(w w':Vw):Prop where
 K:w'.K=w.K
 n:w.n≤w'.n
 μ:∀i,i<w.n→w'.μ i=w.μ i
 imm:∀a o,w.H a=some o→Imm o=true→w'.H a=some o
theorem Ext.refl(w:Vw):Ext w w:=⟨rfl,Nat.le_refl _,fun _ _=>rfl,fun _ _ h _=>h⟩
theorem Ext.trans{a b c:Vw}(x:Ext a b)(y:Ext b c):Ext a c:=
 ⟨y.K.trans x.K,Nat.le_trans x.n y.n,fun i h=>(y.μ i (Nat.lt_of_lt_of_le h x.n)).trans (x.μ i h),fun p o h q=>y.imm p o (x.imm p o h q) q⟩
theorem Ext.sqT{w w':Vw}(x:Ext w w'){a:Addr}{vs:List V}(h:SqT w.K w.H a vs):SqT w'.K w'.H a vs:=by
 rw[x.K]
 rcases h with(h | ⟨o,h⟩) | h
 ·exact .inl (.inl (x.imm _ _ h rfl))
 ·exact .inl (.inr ⟨o,x.imm _ _ h rfl⟩)
 ·exact .inr h
mutual
theorem RD.ext{w w':Vw}(x:Ext w w'):∀{d:D} {v:V},RD w d v→RD w' d v
 | .non,v,h=>by unfold RD at *;exact h
 | .bl b,v,h=>by unfold RD at *;exact h
 | .int i,v,h=>by unfold RD at *;exact h
 | .str _,v,h=>by unfold RD at *;exact h
 | .tup ds,v,h=>by
  unfold RD at *
  obtain⟨a,vs,e,q,r⟩:=h
  exact⟨a,vs,e,x.imm _ _ q rfl,RDs.ext x r⟩
 | .ref i,v,h=>by
  unfold RD at *
  exact⟨Nat.lt_of_lt_of_le h.1 x.n,by rw[x.μ i h.1];exact h.2⟩
 | .ty n,v,h=>by unfold RD at *;exact h
 | .gtup ds,v,h=>by
  unfold RD at *
  obtain⟨a,vs,e,q,r⟩:=h
  exact⟨a,vs,e,x.sqT q,RDs.ext x r⟩
 | .cls a,v,h=>by unfold RD at *;exact h
 | .exn e C dx row,v,h=>by
  unfold RD at *
  obtain⟨e1,q,r,q2,q3⟩:=h
  exact⟨e1,x.imm _ _ q rfl,r,x.imm _ _ q2 rfl,RD.ext x q3⟩
theorem RDs.ext{w w':Vw}(x:Ext w w'):∀{ds:List D} {vs:List V},RDs w ds vs→RDs w' ds vs
 | [],vs,h=>by unfold RDs at *;exact h
 | d::ds,vs,h=>by
  unfold RDs at *
  obtain⟨v,r,e,h1,h2⟩:=h
  exact⟨v,r,e,RD.ext x h1,RDs.ext x h2⟩
end
theorem RKV.ext{w w':Vw}(x:Ext w w'):∀{ds:List (Key×D)} {vs:List (Key×V)},RKV w ds vs→RKV w' ds vs
 | [],vs,h=>by unfold RKV at *;exact h
 |(k,d)::ds,vs,h=>by
  unfold RKV at *
  obtain⟨v,r,e,h1,h2⟩:=h
  exact⟨v,r,e,RD.ext x h1,RKV.ext x h2⟩
structure Ext0(w w':Vw):Prop where
 K:w'.K=w.K
 n:w.n≤w'.n
 μ:∀i,i<w.n→w'.μ i=w.μ i
 imm:∀a o,w.H a=some o→Imm o=true→(∀ob kvs,o≠ .frz ob (.dK kvs))→w'.H a=some o
mutual
theorem RD.ext0{w w':Vw}(x:Ext0 w w'):∀{d:D} {v:V},RD w d v→RD w' d v
 | .non,v,h=>by unfold RD at *;exact h
 | .bl b,v,h=>by unfold RD at *;exact h
 | .int i,v,h=>by unfold RD at *;exact h
 | .str _,v,h=>by unfold RD at *;exact h
 | .tup ds,v,h=>by
  unfold RD at *
  obtain⟨a,vs,e,q,r⟩:=h
  exact⟨a,vs,e,x.imm _ _ q rfl (fun _ _ z=>by cases z),RDs.ext0 x r⟩
 | .ref i,v,h=>by
  unfold RD at *
  exact⟨Nat.lt_of_lt_of_le h.1 x.n,by rw[x.μ i h.1];exact h.2⟩
 | .ty n,v,h=>by unfold RD at *;exact h
 | .gtup ds,v,h=>by
  unfold RD at *
  obtain⟨a,vs,e,q,r⟩:=h
  refine⟨a,vs,e,?_,RDs.ext0 x r⟩
  rw[x.K]
  rcases q with(h | ⟨o,h⟩) | h
  ·exact .inl (.inl (x.imm _ _ h rfl (fun _ _ z=>by cases z)))
  ·exact .inl (.inr ⟨o,x.imm _ _ h rfl (fun _ _ z=>by cases z)⟩)
  ·exact .inr h
 | .cls a,v,h=>by unfold RD at *;exact h
 | .exn e C dx row,v,h=>by
  unfold RD at *
  obtain⟨e1,q,r,q2,q3⟩:=h
  exact⟨e1,x.imm _ _ q rfl (fun _ _ z=>by cases z),r,x.imm _ _ q2 rfl (fun _ _ z=>by cases z),RD.ext0 x q3⟩
theorem RDs.ext0{w w':Vw}(x:Ext0 w w'):∀{ds:List D} {vs:List V},RDs w ds vs→RDs w' ds vs
 | [],vs,h=>by unfold RDs at *;exact h
 | d::ds,vs,h=>by
  unfold RDs at *
  obtain⟨v,r,e,h1,h2⟩:=h
  exact⟨v,r,e,RD.ext0 x h1,RDs.ext0 x h2⟩
end
theorem RDs.nil(w:Vw):RDs w [] []:=by unfold RDs;rfl
theorem RDs.cons{w:Vw}{d:D}{v:V}{ds:List D}{vs:List V}(h:RD w d v)(r:RDs w ds vs):RDs w (d::ds) (v::vs):=by unfold RDs;exact⟨v,vs,rfl,h,r⟩
theorem RDs.length{w:Vw}:∀{ds:List D} {vs:List V},RDs w ds vs→vs.length=ds.length
 | [],vs,h=>by unfold RDs at h;subst h;rfl
 | d::ds,vs,h=>by
  unfold RDs at h
  obtain⟨v,r,rfl,_,h2⟩:=h
  simp[h2.length]
theorem RDs.get{w:Vw}:∀{ds:List D} {vs:List V} {i:Nat} {d:D},RDs w ds vs→ds[i]?=some d→∃v,vs[i]?=some v∧RD w d v
 | [],vs,i,d,h,e=>by simp at e
 | d::ds,vs,i,d',h,e=>by
  unfold RDs at h
  obtain⟨v,r,rfl,h1,h2⟩:=h
  cases i with
  | zero=>simp at e;subst e;exact⟨v,rfl,h1⟩
  | succ i=>simpa using RDs.get h2 (by simpa using e)
theorem RDs.append{w:Vw}:∀{ds es:List D} {vs us:List V},RDs w ds vs→RDs w es us→RDs w (ds++es) (vs++us)
 | [],es,vs,us,h,g=>by unfold RDs at h;subst h;exact g
 | d::ds,es,vs,us,h,g=>by
  unfold RDs at h
  obtain⟨v,r,rfl,h1,h2⟩:=h
  exact RDs.cons h1 (RDs.append h2 g)
theorem RDs.take{w:Vw}:∀{ds:List D} {vs:List V} (n:Nat),RDs w ds vs→RDs w (ds.take n) (vs.take n)
 | _,_,0,_=>by simp[RDs.nil]
 | [],vs,n+1,h=>by unfold RDs at h;subst h;simp[RDs.nil]
 | d::ds,vs,n+1,h=>by
  unfold RDs at h
  obtain⟨v,r,rfl,h1,h2⟩:=h
  exact RDs.cons h1 (RDs.take n h2)
theorem RDs.drop{w:Vw}:∀{ds:List D} {vs:List V} (n:Nat),RDs w ds vs→RDs w (ds.drop n) (vs.drop n)
 | _,_,0,h=>by simpa using h
 | [],vs,n+1,h=>by unfold RDs at h;subst h;simp[RDs.nil]
 | d::ds,vs,n+1,h=>by
  unfold RDs at h
  obtain⟨v,r,rfl,h1,h2⟩:=h
  simpa using RDs.drop n h2
theorem RDs.set{w:Vw}{d:D}{v:V}(q:RD w d v):∀{ds:List D} {vs:List V} (n:Nat),RDs w ds vs→RDs w (ds.set n d) (vs.set n v)
 | [],vs,n,h=>by unfold RDs at h;subst h;simp[RDs.nil]
 | d::ds,vs,0,h=>by
  unfold RDs at h
  obtain⟨v,r,rfl,h1,h2⟩:=h
  exact RDs.cons q h2
 | d::ds,vs,n+1,h=>by
  unfold RDs at h
  obtain⟨v,r,rfl,h1,h2⟩:=h
  exact RDs.cons h1 (RDs.set q n h2)
theorem RDs.reverse{w:Vw}:∀{ds:List D} {vs:List V},RDs w ds vs→RDs w ds.reverse vs.reverse
 | [],vs,h=>by unfold RDs at h;subst h;simp[RDs.nil]
 | d::ds,vs,h=>by
  unfold RDs at h
  obtain⟨v,r,rfl,h1,h2⟩:=h
  simp only[List.reverse_cons]
  exact(RDs.reverse h2).append (RDs.cons h1 (RDs.nil w))
noncomputable def Vw.push(w:Vw)(a:Addr)(o:HO):Vw:=⟨w.K,upd w.H a o,fun i=>if i=w.n then a else w.μ i,w.n+1⟩
noncomputable def Vw.alloc(w:Vw)(a:Addr)(o:HO):Vw:={w with H:=upd w.H a o}
theorem Vh{w:Vw}{a:Addr}{o:HO}(h:w.H a=none):Ext w (w.alloc a o):=
 ⟨rfl,Nat.le_refl _,fun _ _=>rfl,fun b u q _=>by
  show upd w.H a o b=some u
  rw[Zs (by rintro rfl;rw[h] at q;cases q)];exact q⟩
theorem Tk{w:Vw}{a:Addr}{o:HO}(h:w.H a=none):Ext w (w.push a o):=
 ⟨rfl,Nat.le_succ _,fun i hi=>by show(if i=w.n then a else w.μ i)=_;rw[if_neg (by omega)],fun b u q _=>by
  show upd w.H a o b=some u
  rw[Zs (by rintro rfl;rw[h] at q;cases q)];exact q⟩
theorem SqF.stay{w w':Vw}{a:Addr}{vs:List V}(x:Ext w w')(h:SqF w.K w.H a vs):SqF w'.K w'.H a vs:=by
 rcases h with⟨o,h⟩ | h
 ·exact .inl ⟨o,x.imm _ _ h rfl⟩
 ·rw[x.K];exact .inr h
theorem SqF.sq{K:PySem.W.Frag}{H:Hp}{a:Addr}{vs:List V}(h:SqF K H a vs):SqL K H a vs:=by
 rcases h with⟨o,h⟩ | (h | ⟨o,h⟩) | h
 ·exact .inl (.inr ⟨o,h⟩)
 ·cases h
 ·cases h
 ·exact .inr h
theorem O7.some{w:Vw}{c:Cell}{a:Addr}(hm:c.mut=true)(h:O7 w c a):∃o,w.H a=some o:=by
 cases c with
 | lst ds=>obtain⟨vs,q,_⟩:=h;exact⟨_,q⟩
 | frz ds=>cases hm
 | dct ds=>obtain⟨vs,q,_⟩:=h;exact⟨_,q⟩
 | fdc ds=>obtain⟨o,vs,q,_⟩:=h;exact⟨_,q⟩
theorem O7.stay{w w':Vw}{c:Cell}{a:Addr}(x:Ext w w')(h:O7 w c a)(k:c.mut=true→w'.H a=w.H a):O7 w' c a:=by
 cases c with
 | lst ds=>obtain⟨vs,q,r⟩:=h;exact⟨vs,(k rfl).trans q,r.ext x⟩
 | frz ds=>obtain⟨vs,q,r⟩:=h;exact⟨vs,q.stay x,r.ext x⟩
 | dct ds=>obtain⟨vs,q,r⟩:=h;exact⟨vs,(k rfl).trans q,r.ext x⟩
 | fdc ds=>obtain⟨o,vs,q,r⟩:=h;exact⟨o,vs,(k rfl).trans q,r.ext x⟩
theorem RS.alloc{w:Vw}{M:Z2}{a:Addr}{o:HO}(R:RS w M)(h:w.H a=none):RS (w.alloc a o) M:=
 ⟨R.len,R.inj,fun i c e=>by
  have q:=R.cell i c e
  refine q.stay (Vh h) fun hm=>?_
  obtain⟨u,hu⟩:=q.some hm
  exact Zs (fun z=>by have z:w.μ i=a:=z;rw[z,h] at hu;cases hu)⟩
theorem RS.push{w:Vw}{M:Z2}{a:Addr}{o:HO}{c:Cell}(R:RS w M)(h:w.H a=none)(new:O7 (w.push a o) c a):RS (w.push a o) (M++[c]):=by
 have old:∀(i:Nat) (ci:Cell),(M++[c])[i]?=some ci→(i=w.n∧ci=c)∨(i<w.n∧M[i]?=some ci):=fun i ci e=>by
  by_cases hi:i<M.length
  ·rw[List.getElem?_append_left hi] at e
   exact .inr ⟨by rw[R.len];exact hi,e⟩
  ·rw[List.getElem?_append_right (by omega)] at e
   have hz:i - M.length=0:=by
    have:=(List.getElem?_eq_some_iff.mp e).1
    simp at this
    omega
   rw[hz] at e
   simp at e
   exact .inl ⟨by rw[R.len];omega,e.symm⟩
 have no:∀(i:Nat) (ci:Cell),M[i]?=some ci→ci.mut=true→w.μ i≠a:=fun i ci e hm z=>by
  obtain⟨u,hu⟩:=(R.cell i ci e).some hm
  rw[z,h] at hu;cases hu
 refine⟨by show w.n+1=_;rw[R.len];simp,fun i j ci cj ei ej mi mj e=>?_,fun i c' e=>?_⟩
 ·change (if i=w.n then a else w.μ i)=(if j=w.n then a else w.μ j) at e
  rcases old i ci ei with⟨h1,_⟩ | ⟨h1,h1'⟩
  ·rcases old j cj ej with⟨h2,_⟩ | ⟨h2,h2'⟩
   ·omega
   ·rw[if_pos h1,if_neg (by omega)] at e
    exact absurd e.symm (no j cj h2' mj)
  ·rcases old j cj ej with⟨h2,_⟩ | ⟨h2,h2'⟩
   ·rw[if_neg (by omega),if_pos h2] at e
    exact absurd e (no i ci h1' mi)
   ·rw[if_neg (by omega),if_neg (by omega)] at e
    exact R.inj i j ci cj h1' h2' mi mj e
 ·show O7 _ c' (if i=w.n then a else w.μ i)
  rcases old i c' e with⟨h1,rfl⟩ | ⟨h1,h1'⟩
  ·rw[if_pos h1];exact new
  ·rw[if_neg (by omega)]
   have q:=R.cell i c' h1'
   exact q.stay (Tk h) fun hm=>Zs (no i c' h1' hm)
theorem V0{w:Vw}{a:Addr}{u o:HO}(h:w.H a=some u)(hu:Imm u=false):Ext w (w.alloc a o):=
 ⟨rfl,Nat.le_refl _,fun _ _=>rfl,fun b v q z=>by
  show upd w.H a o b=some v
  rw[Zs (by rintro rfl;rw[h] at q;cases q;rw[hu] at z;cases z)];exact q⟩
theorem RS.write{w:Vw}{M:Z2}{i:Nat}{u o:HO}{c0 c:Cell}(R:RS w M)(h0:M[i]?=some c0)(hm:c0.mut=true)(hc:c.mut=true)(h:w.H (w.μ i)=some u)(hu:Imm u=false)(new:O7 (w.alloc (w.μ i) o) c (w.μ i)):RS (w.alloc (w.μ i) o) (M.set i c):=by
 have hi:i<M.length:=(List.getElem?_eq_some_iff.mp h0).1
 have old:∀(j:Nat) (cj:Cell),(M.set i c)[j]?=some cj→cj.mut=true→∃cj',M[j]?=some cj'∧cj'.mut=true:=fun j cj e mj=>by
  by_cases h1:j=i
  ·subst h1;exact⟨c0,h0,hm⟩
  ·rw[List.getElem?_set_ne (Ne.symm h1)] at e
   exact⟨cj,e,mj⟩
 refine⟨by show w.n=_;rw[R.len];simp,fun a b ca cb ea eb ma mb e=>?_,fun j c' e=>?_⟩
 ·obtain⟨ca',ea',ma'⟩:=old a ca ea ma
  obtain⟨cb',eb',mb'⟩:=old b cb eb mb
  exact R.inj a b ca' cb' ea' eb' ma' mb' e
 ·by_cases h1:j=i
  ·subst h1
   rw[List.getElem?_set_self hi] at e
   cases e
   exact new
  ·rw[List.getElem?_set_ne (Ne.symm h1)] at e
   have q:=R.cell j c' e
   exact q.stay (V0 h hu) fun mj=>Zs (fun z=>h1 (R.inj j i c' c0 e h0 mj hm z))
inductive Op where
 | add | sub | mul | fdiv | mod | pow
 deriving DecidableEq
inductive Cm where
 | lt | gt | ge | eq | ne | is | isin | notin
 deriving DecidableEq
inductive Bf where
 | len | isinst | min2 | max2 | int1
 deriving DecidableEq
inductive Mt where
 | append | pop0 | extend | popi | insi
 deriving DecidableEq
inductive Ty where
 | int | str | bool | list | tuple | dict | valueError
 deriving DecidableEq
noncomputable def Xf:Ty→String
 | .int=>"int" | .str=>"str" | .bool=>"bool" | .list=>"list" | .tuple=>"tuple" | .dict=>"dict" | .valueError=>"ValueError"
set_option genInjectivity false in
mutual
inductive E where
 | var (i:Nat) | int (i:Int) | bl (b:Bool) | non | str (x:Str) | ty (x:Ty) | glb (k:Nat)
 | bin (op:Op) (a b:E) | neg (a:E) | not (a:E) | cmp (op:Cm) (a b:E) | bop (isAnd:Bool) (es:Es)
 | lst (es:Es) | tup (es:Es) | dct (a b:E) | ix (a b:E) | sl (a:E) (lo hi:Eo)
 | call (f:Nat) (es:Es) | bf (b:Bf) (es:Es) | mt (m:Mt) (o:E) (es:Es)
 | comp (N':List Str) (js:List (Option Nat)) (tg:List Nat) (it:It) (cd:Eo) (e:E)
 | lrev (a:E) | anyf (a:E) | dctS (ps:List (Str×Str)) | setf (b:Bool) (a:E) | slW (a:E) (lo hi:Eo)
inductive Es where
 | nil | cons (e:E) (r:Es)
inductive Eo where
 | no | yes (e:E)
inductive It where
 | seq (e:E) | rng1 (a:E) | rng2 (a b:E) | enm (e:E) | zip (es:Es)
end
set_option genInjectivity false in
mutual
inductive S where
 | ret (e:E) | expr (e:E)
 | set (tg:List Nat) (e:E) | setL (tg:List Nat) (e:E)
 | put (o i v:E)
 | ite (c:E) (a b:Ss) | for_ (tg:List Nat) (it:It) (b:Ss) | while_ (c:E) (b:Ss)
inductive Ss where
 | nil | cons (s:S) (r:Ss)
end
noncomputable def Zf(M:Z2)(n:Nat):Option (List D):=match M[n]? with
 | some (.lst xs)=>some xs
 | some (.frz xs)=>some xs
 | _=>none
noncomputable def Z4(M:Z2)(n:Nat):Option (List D):=match M[n]? with
 | some (.lst xs)=>some xs
 | _=>none
noncomputable def W8(M:Z2)(n:Nat):Option (List (Key×D)):=match M[n]? with
 | some (.dct xs)=>some xs
 | _=>none
noncomputable def Bh(M:Z2)(n:Nat):Option (List (Key×D)):=match M[n]? with
 | some (.dct xs)=>some xs
 | some (.fdc xs)=>some xs
 | _=>none
noncomputable def valD(kvs:List (Key×D))(k:Key):Option D:=(kvs.find? fun kv=>decide (kv.1=k)).map (·.2)
noncomputable def putD(kvs:List (Key×D))(k:Key)(v:D):List (Key×D):=
 if (kvs.any fun kv=>decide (kv.1=k))=true then kvs.map (fun kv=>if kv.1=k then(kv.1,v) else kv) else kvs++[(k,v)]
noncomputable def keyD:D→Option Key
 | .int i=>some (.inl i)
 | .str x=>some (.inr x)
 | _=>none
noncomputable def kD:Key→D
 | .inl i=> .int i
 | .inr x=> .str x
noncomputable def Zn6(ps:List (Key×D)):List (Key×D):=ps.foldl (fun m p=>putD m p.1 p.2) []
noncomputable def qdiv(i j:Int):Int:=if 0<j then i / j else i.fdiv j
noncomputable def qmod(i j:Int):Int:=if 0<j then i % j else i.fmod j
theorem Zr7(i j:Int):i.fdiv j=qdiv i j:=by
 unfold qdiv
 split
 ·exact Int.fdiv_eq_ediv_of_nonneg _ (by omega)
 ·rfl
theorem Zo0(i j:Int):i.fmod j=qmod i j:=by
 unfold qmod
 split
 ·exact Int.fmod_eq_emod_of_nonneg _ (by omega)
 ·rfl
theorem Zg9{i j:Int}(h:0<j):qdiv i j=i / j:=if_pos h
theorem Ze2{i j:Int}(h:0<j):qmod i j=i % j:=if_pos h
def Cd(x:D)(F:Int→Prop):Prop:=match x with
 | .int i=>F i
 | _=>False
def onBl(x:D)(F:Bool→Prop):Prop:=match x with
 | .bl b=>F b
 | _=>False
def Q5(x:D)(F:Nat→Prop):Prop:=match x with
 | .ref n=>F n
 | _=>False
def Bg(x:D)(F:List D→Prop):Prop:=match x with
 | .tup l=>F l
 | _=>False
def Qd(x y:D)(F:Int→Int→Prop):Prop:=Cd x fun i=>Cd y fun j=>F i j
def at0(l:List D)(P:Prop):Prop:=match l with
 | []=>P
 | _::_=>False
def at1(l:List D)(F:D→Prop):Prop:=match l with
 | []=>False
 | a::r=>at0 r (F a)
def at2(l:List D)(F:D→D→Prop):Prop:=match l with
 | []=>False
 | a::r=>at1 r (F a)
theorem V3{x:D}{F:Int→Prop}(h:Cd x F):∃i,x= .int i∧F i:=by
 cases x with
 | int i=>exact⟨i,rfl,h⟩
 | _=>exact False.elim h
theorem Zd5{x:D}{F:Bool→Prop}(h:onBl x F):∃b,x= .bl b∧F b:=by
 cases x with
 | bl b=>exact⟨b,rfl,h⟩
 | _=>exact False.elim h
theorem Ys{x:D}{F:Nat→Prop}(h:Q5 x F):∃n,x= .ref n∧F n:=by
 cases x with
 | ref n=>exact⟨n,rfl,h⟩
 | _=>exact False.elim h
theorem Rm{x:D}{F:List D→Prop}(h:Bg x F):∃l,x= .tup l∧F l:=by
 cases x with
 | tup l=>exact⟨l,rfl,h⟩
 | _=>exact False.elim h
theorem X4{x y:D}{F:Int→Int→Prop}(h:Qd x y F):∃i j,x= .int i∧y= .int j∧F i j:=by
 obtain⟨i,rfl,h1⟩:=V3 h
 obtain⟨j,rfl,h2⟩:=V3 h1
 exact⟨i,j,rfl,rfl,h2⟩
theorem Z54{l:List D}{P:Prop}(h:at0 l P):l=[]∧P:=by
 cases l with
 | nil=>exact⟨rfl,h⟩
 | cons _ _=>exact False.elim h
theorem Se{l:List D}{F:D→Prop}(h:at1 l F):∃a,l=[a]∧F a:=by
 cases l with
 | nil=>exact False.elim h
 | cons a r=>obtain⟨rfl,h1⟩:=Z54 h;exact⟨a,rfl,h1⟩
theorem Rr{l:List D}{F:D→D→Prop}(h:at2 l F):∃a b,l=[a,b]∧F a b:=by
 cases l with
 | nil=>exact False.elim h
 | cons a r=>obtain⟨b,rfl,h1⟩:=Se h;exact⟨a,b,rfl,h1⟩
def addD(x y:D)(M:Z2)(Q:DK):Prop:=match x with
 | .int i=>Cd y fun j=>Q (.int (i+j)) M
 | .str a=>match y with
  | .str b=>a.length+b.length≤sizeLine∧Q (.str (a++b)) M
  | _=>False
 | .tup a=>Bg y fun b=>a≠[]∧a.length+b.length≤sizeLine∧Q (.tup (a++b)) M
 | .ref a=>Q5 y fun b=>∃xs ys,Z4 M a=some xs∧Z4 M b=some ys∧xs.length+ys.length≤sizeLine∧Q (.ref M.length) (M++[.lst (xs++ys)])
 | _=>False
def mulD(x y:D)(M:Z2)(Q:DK):Prop:=match x with
 | .int i=>Cd y fun j=>IntMulOk i j∧Q (.int (i * j)) M
 | .ref a=>Cd y fun k=>∃xs,Z4 M a=some xs∧0≤k∧k<2 ^ 62∧xs.length * k.toNat≤sizeLine∧Q (.ref M.length) (M++[.lst (List.replicate k.toNat xs).flatten])
 | _=>False
def opD(op:Op)(x y:D)(M:Z2)(Q:DK):Prop:=match op with
 | .add=>addD x y M Q
 | .mul=>mulD x y M Q
 | .sub=>Qd x y fun i j=>Q (.int (i - j)) M
 | .fdiv=>Qd x y fun i j=>Z16 i j∧Q (.int (qdiv i j)) M
 | .mod=>Qd x y fun i j=>j≠0∧Q (.int (qmod i j)) M
 | .pow=>Qd x y fun i j=>CPow i j∧Q (.int (i ^ j.toNat)) M
mutual
def PD(M:Z2):PyData→D→Prop
 | .none,d=>d= .non
 | .bool b,d=>d= .bl b
 | .int i,d=>d= .int i
 | .str x,d=>d= .str x
 | .list xs,d=>∃n ds,d= .ref n∧Zf M n=some ds∧PDs M xs ds
 | .tuple xs,d=>∃ds,d= .tup ds∧PDs M xs ds
 | .dict _,_=>False
def PDs(M:Z2):List PyData→List D→Prop
 | [],ds=>ds=[]
 | x::xs,ds=>∃d r,ds=d::r∧PD M x d∧PDs M xs r
end
noncomputable def Y8:D→Bool
 | .non | .bl _ | .int _ | .str _=>true
 | _=>false
noncomputable def eqF:D→D→Bool
 | .non,.non=>true
 | .bl a,.bl b=>a==b
 | .bl a,.int b=>(if a then 1 else 0)==b
 | .int a,.bl b=>a==(if b then 1 else 0)
 | .int a,.int b=>a==b
 | .str a,.str b=>a==b
 | _,_=>false
noncomputable def eqFs(xs ys:List D):Bool:=(List.range (min xs.length ys.length)).all (fun j=>eqF (xs.getD j .non) (ys.getD j .non))&&xs.length==ys.length
noncomputable def inD(x:D)(xs:List D):Bool:=xs.any fun y=>eqF y x
noncomputable def eqKV(a b:List (Key×D)):Bool:=a.length==b.length&&a.all fun kv=>match valD b kv.1 with
 | some y=>eqF kv.2 y
 | none=>false
noncomputable def eqS(x y:D):Option Bool:=match x with
 | .int i=>match y with
  | .int j=>some (decide (i=j))
  | .str _=>some false
  | .non=>some false
  | _=>none
 | .str i=>match y with
  | .str j=>some (decide (i=j))
  | .int _=>some false
  | .non=>some false
  | .bl _=>some false
  | _=>none
 | .bl i=>match y with
  | .bl j=>some (decide (i=j))
  | .non=>some false
  | .str _=>some false
  | _=>none
 | .non=>match y with
  | .non=>some true
  | .int _=>some false
  | .bl _=>some false
  | .str _=>some false
  | _=>none
 | _=>none
def eqD(M:Z2)(x y:D)(Q:Bool→Prop):Prop:=match eqS x y with
 | some b=>Q b
 | none=>(∃da db,PD M da x∧PD M db y∧da.canLay0=true∧db.canLay0=true∧min da.depth db.depth≤60∧Q (PyData.eqv da db))∨
   (∃m n a b,x= .ref m∧y= .ref n∧W8 M m=some a∧W8 M n=some b∧(a.all fun kv=>Y8 kv.2)=true∧(b.all fun kv=>Y8 kv.2)=true∧Q (eqKV a b))∨(∃m n xs,x= .ref m∧y= .ref n∧Zf M m=some xs∧Zf M n=some []∧Q xs.isEmpty)∨(∃xs ys,(x= .tup xs∨x= .gtup xs)∧(y= .tup ys∨y= .gtup ys)∧xs.all Y8=true∧ys.all Y8=true∧Q (eqFs xs ys))
def inQ(M:Z2):D→D→(Bool→Prop)→Prop
 | .str a,.str b,Q=>Q (!(Builtin.Str.occurrences b a 0 b.length 1).isEmpty)
 | x,.ref n,Q=>(∃xs,Zf M n=some xs∧Y8 x=true∧xs.all Y8=true∧Q (inD x xs))∨(∃kvs k,W8 M n=some kvs∧keyD x=some k∧Q (valD kvs k).isSome)∨(∃(ys:List D) (xs:List (List D)),x= .tup ys∧Zf M n=some (xs.map .tup)∧ys.all Y8=true∧(xs.all fun zs=>zs.all Y8)=true∧Q (xs.any fun zs=>eqFs zs ys))
 | x,.tup xs,Q=>Y8 x=true∧xs.all Y8=true∧Q (inD x xs)
 | x,.gtup xs,Q=>Y8 x=true∧xs.all Y8=true∧Q (inD x xs)
 | _,_,_=>False
def nonD(x y:D)(Q:Bool→Prop):Prop:=match y with
 | .non=>match x with
  | .non=>Q true
  | .bl _=>Q false
  | .int _=>Q false
  | .str _=>Q false
  | .tup _=>Q false
  | .ref _=>Q false
  | .exn _ _ _ _=>Q false
  | _=>False
 | _=>False
def cmD(M:Z2)(op:Cm)(x y:D)(Q:Bool→Prop):Prop:=match op with
 | .lt=>Qd x y fun i j=>Q (decide (i<j))
 | .gt=>Qd x y fun i j=>Q (decide (j<i))
 | .ge=>Qd x y fun i j=>Q (decide (j≤i))
 | .eq=>eqD M x y Q
 | .ne=>eqD M x y fun b=>Q (!b)
 | .is=>nonD x y Q
 | .isin=>inQ M x y Q
 | .notin=>inQ M x y fun b=>Q (!b)
def truD(M:Z2):D→(Bool→Prop)→Prop
 | .non,Q=>Q false
 | .bl b,Q=>Q b
 | .int i,Q=>Q (i !=0)
 | .str x,Q=>x.length≤sizeLine∧Q ((x.length:Int) !=0)
 | .tup xs,Q=>Q (!xs.isEmpty)
 | .ref n,Q=>(∃xs,Zf M n=some xs∧Q (!xs.isEmpty))∨(∃xs,W8 M n=some xs∧Q (!xs.isEmpty))
 | _,_=>False
def ixD(M:Z2):D→D→(D→Prop)→Prop
 | .ref n,k,Q=>(∃xs i d,k= .int i∧Zf M n=some xs∧atI xs i=some d∧Q d)∨(∃kvs y d,Bh M n=some kvs∧keyD k=some y∧valD kvs y=some d∧Q d)
 | .tup xs,.int i,Q=>∃d,atI xs i=some d∧Q d
 | .gtup xs,.int i,Q=>∃d,atI xs i=some d∧Q d
 | .str z,.int i,Q=>z.length≤sizeLine∧∃c,atI z.cps.toList i=some c∧Q (.str ⟨#[c]⟩)
 | _,_,_=>False
noncomputable def cutD{α:Type}(xs:List α)(lo hi:Option Int):List α:=(xs.drop (HT.sIx xs.length 0 lo)).take (HT.sIx xs.length xs.length hi - HT.sIx xs.length 0 lo)
def slD:D→Option Int→Option Int→Z2→DK→Prop
 | .str z,lo,hi,M,Q=>z.length≤sizeLine∧Q (.str (Txt.slice z lo hi)) M
 | .ref n,lo,hi,M,Q=>∃xs,Zf M n=some xs∧Q (.ref M.length) (M++[.lst (cutD xs lo hi)])
 | .tup xs,lo,hi,M,Q=>¬(HT.sIx xs.length 0 lo=0∧HT.sIx xs.length xs.length hi=xs.length)∧Q (.tup (cutD xs lo hi)) M
 | _,_,_,_,_=>False
noncomputable def tyD(M:Z2):D→Option String
 | .non=>some "NoneType"
 | .bl _=>some "bool"
 | .int _=>some "int"
 | .str _=>some "str"
 | .tup _=>some "tuple"
 | .ref n=>match M[n]? with
  | some (.lst _)=>some "list"
  | some (.frz _)=>none
  | some (.dct _)=>some "dict"
  | some (.fdc _)=>none
  | none=>none
 | _=>none
def isD(K:PySem.W.Frag)(M:Z2):D→D→(Bool→Prop)→Prop
 | .exn _ C _ _,.cls c,Q=>∃b,ExcIs K C∧PySem.W.kitOne K (.ref C) (.ref c)=some b∧Q b
 | .exn _ C _ _,.ty c,Q=>∃b,ExcIs K C∧PySem.W.kitOne K (.ref C) (.type c)=some b∧Q b
 | .exn _ C _ _,.tup cs,Q=>∃(as:List Addr) (b:Bool),cs=as.map D.cls∧ExcIs K C∧PySem.W.kitAny K (.ref C) (as.map Value.ref)=some b∧Q b
 | d,.ty c,Q=>∃t b,tyD M d=some t∧PySem.W.kitOne K (.type t) (.type c)=some b∧Q b
 | _,_,_=>False
def lenD(x:D)(M:Z2)(Q:DK):Prop:=match x with
 | .ref n=>(∃xs,Zf M n=some xs∧Q (.int xs.length) M)∨(∃xs,W8 M n=some xs∧Q (.int xs.length) M)
 | .tup xs=>Q (.int xs.length) M
 | .str x=>x.length≤sizeLine∧Q (.int x.length) M
 | _=>False
def bfD(K:PySem.W.Frag)(b:Bf)(l:List D)(M:Z2)(Q:DK):Prop:=match b with
 | .len=>at1 l fun x=>lenD x M Q
 | .isinst=>at2 l fun d c=>isD K M d c fun b=>Q (.bl b) M
 | .min2=>at2 l fun x y=>Qd x y fun i j=>Q (.int (if j<i then j else i)) M
 | .max2=>at2 l fun x y=>Qd x y fun i j=>Q (.int (if j >i then j else i)) M
 | .int1=>at1 l fun x=>onBl x fun b=>Q (.int (if b then 1 else 0)) M
def setD(b:Bool)(n:Nat)(M:Z2)(Q:DK):Prop:=match b with
 | true=>∃ns:List Int,Zf M n=some (ns.map .int)∧ns.length<64∧∀ms:List Int,ms.Pairwise (· < ·)→(∀i,i∈ms↔i∈ns)→Q (.ref M.length) (M++[.lst (ms.map .int)])
 | false=>∃ks:List Key,Zf M n=some (ks.map kD)∧ks.length+1<scanBound∧∀ks':List Key,ks'.Nodup→(∀k,k∈ks'↔k∈ks)→Q (.int ks'.length) M
def mtD(m:Mt)(o:D)(l:List D)(M:Z2)(Q:DK):Prop:=Q5 o fun n=>match m with
 | .popi=>at1 l fun k=>∃xs d,∃j:Nat,k= .int j∧Z4 M n=some xs∧xs[j]?=some d∧Q d (M.set n (.lst (xs.eraseIdx j)))
 | .insi=>at2 l fun k d=>∃xs,∃j:Nat,k= .int j∧Z4 M n=some xs∧j≤xs.length∧xs.length<sizeLine∧Q .non (M.set n (.lst (xs.take j++d::xs.drop j)))
 | .append=>at1 l fun d=>∃xs,Z4 M n=some xs∧xs.length<sizeLine∧Q .non (M.set n (.lst (xs++[d])))
 | .pop0=>at0 l (∃xs d,Z4 M n=some xs∧xs[xs.length - 1]?=some d∧Q d (M.set n (.lst xs.dropLast)))
 | .extend=>at1 l fun t=>Q5 t fun m=>∃xs ys,Z4 M n=some xs∧Z4 M m=some ys∧xs.length+ys.length≤sizeLine∧Q .non (M.set n (.lst (xs++ys)))
def mtK(m:Mt)(o:D)(M:Z2):Prop:=Q5 o fun n=>match m with
 | _=>(Zf M n).isSome=true
def tgD:List Nat→D→DEnv→(DEnv→Prop)→Prop
 | [i],d,σ,Q=>Q (σ.set i (some d))
 | is,.tup ds,σ,Q=>ds.length=is.length∧Q ((is.zip ds).foldl (fun σ p=>σ.set p.1 (some p.2)) σ)
 | _,_,_,_=>False
inductive Own where
 | no | lst (n:Nat) | enm (n:Nat) | dct (n:Nat) | two (n m:Nat)
noncomputable def Y54(kvs:List (Key×D)):List D:=kvs.map fun p=>kD p.1
noncomputable def Zf5(xs:List D):List D:=xs.mapIdx fun i d=> .tup [.int i,d]
noncomputable def zipT(ys zs:List D):List D:=(ys.zip zs).map fun p=>D.tup [p.1,p.2]
def zip2(M:Z2)(a b:D)(Q:Own→List D→Prop):Prop:=match a with
 | .ref n=>Q5 b fun m=>∃ys zs,Zf M n=some ys∧Zf M m=some zs∧Q (.two n m) (zipT ys zs)
 | .tup ys=>Bg b fun zs=>Q .no (zipT ys zs)
 | _=>False
def itD(M:Z2):D→(Own→List D→Prop)→Prop
 | .ref n,R=>∃xs,Zf M n=some xs∧R (.lst n) xs
 | .tup xs,R=>R .no xs
 | .gtup xs,R=>R .no xs
 | _,_=>False
noncomputable def Qj(lo:Int)(n:Nat):List D:=(List.range n).map fun(k:Nat)=>D.int (lo+(k:Int))
def Qg(own:Own)(xs:List D)(M:Z2):Prop:=match own with
 | .lst n=>Zf M n=some xs
 | .enm n=>∃ys,Zf M n=some ys∧xs=Zf5 ys
 | .dct n=>∃kvs,M[n]?=some (.fdc kvs)∧xs=Y54 kvs
 | .two n m=>∃ys zs,Zf M n=some ys∧Zf M m=some zs∧xs=zipT ys zs
 | .no=>True
def forD(own:Own)(xs:List D)(tg:List Nat)(body:DS):List D→DEnds→DEnv→Z2→Prop
 | [],R,σ,M=>Qg own xs M∧R.nx σ M
 | d::r,R,σ,M=>Qg own xs M∧tgD tg d σ fun σ'=>body {nx:=fun σ2 M2=>forD own xs tg body r R σ2 M2,rt:=R.rt,bk:=R.nx,ct:=fun σ2 M2=>forD own xs tg body r R σ2 M2} σ' M
def N0(own:Own)(xs:List D)(tg:List Nat)(cd:DT)(el:DE)(z:Nat):List D→DEnv→Z2→(Z2→Prop)→Prop
 | [],_,M,Q=>Qg own xs M∧Q M
 | d::r,σ,M,Q=>Qg own xs M∧tgD tg d σ fun σ'=>cd σ' M fun b M1=>if b=true then
   el σ' M1 fun y M2=>∃acc,Z4 M2 z=some acc∧acc.length<sizeLine∧N0 own xs tg cd el z r σ' (M2.set z (.lst (acc++[y]))) Q
   else N0 own xs tg cd el z r σ' M1 Q
noncomputable def capD(js:List (Option Nat))(σ:DEnv):DEnv:=js.map fun o=>o.bind fun j=>(σ[j]?).join
abbrev noX:DX:=fun _ _ _=>False
structure Cfg where
 K:PySem.W.Frag
 Γ:List DSp
 G:List D
mutual
def te(c:Cfg)(X:DX):E→DE
 | .var i,σ,M,Q=>match σ[i]? with
  | some (some d)=>Q d M
  | _=>False
 | .int i,_,M,Q=>Q (.int i) M
 | .bl b,_,M,Q=>Q (.bl b) M
 | .non,_,M,Q=>Q .non M
 | .str x,_,M,Q=>Q (.str x) M
 | .ty n,_,M,Q=>Q (.ty (Xf n)) M
 | .glb k,_,M,Q=>match c.G[k]? with
  | some d=>Q d M
  | none=>False
 | .bin op a b,σ,M,Q=>te c X a σ M fun x M1=>te c X b σ M1 fun y M2=>opD op x y M2 Q
 | .neg a,σ,M,Q=>te c X a σ M fun x M1=>match x with
  | .int i=>Q (.int (-i)) M1
  | _=>False
 | .not a,σ,M,Q=>te c X a σ M fun x M1=>truD M1 x fun b=>Q (.bl (!b)) M1
 | .cmp op a b,σ,M,Q=>te c X a σ M fun x M1=>te c X b σ M1 fun y M2=>cmD M2 op x y fun r=>Q (.bl r) M2
 | .bop k es,σ,M,Q=>tbop c X k es σ M Q
 | .lst es,σ,M,Q=>tes c X es σ M fun ds M1=>ds.length≤sizeLine∧Q (.ref M1.length) (M1++[.lst ds])
 | .tup es,σ,M,Q=>tes c X es σ M fun ds M1=>ds.length≤sizeLine∧Q (.tup ds) M1
 | .dct a b,σ,M,Q=>te c X a σ (M++[.dct []]) fun x M1=>te c X b σ M1 fun y M2=>∃k,keyD x=some k∧W8 M2 M.length=some []∧Q (.ref M.length) (M2.set M.length (.dct [(k,y)]))
 | .ix a b,σ,M,Q=>te c X a σ M fun x M1=>te c X b σ M1 fun y M2=>ixD M2 x y fun d=>Q d M2
 | .sl a lo hi,σ,M,Q=>te c X a σ M fun x M1=>teo c X lo σ M1 fun l M2=>teo c X hi σ M2 fun h M3=>slD x l h M3 Q
 | .call f es,σ,M,Q=>tes c X es σ M fun ds M1=>match c.Γ[f]? with
  | some sp=>sp ds M1 Q X
  | none=>False
 | .bf b es,σ,M,Q=>tes c X es σ M fun ds M1=>bfD c.K b ds M1 Q
 | .slW a lo hi,σ,M,Q=>te c X a σ M fun x M1=>teo c X lo σ M1 fun l M2=>teo c X hi σ M2 fun h M3=>Bg x fun xs=>Q (.tup (cutD xs l h)) M3
 | .setf b a,σ,M,Q=>te c X a σ M fun x M1=>Q5 x fun n=>setD b n M1 Q
 | .lrev a,σ,M,Q=>te c X a σ M fun x M1=>Q5 x fun n=>∃xs,Zf M1 n=some xs∧Q (.ref M1.length) (M1++[.lst xs.reverse])
 | .anyf a,σ,M,Q=>te c X a σ M fun x M1=>Q5 x fun n=>∃bs:List Bool,Zf M1 n=some (bs.map .bl)∧Q (.bl (bs.any id)) M1
 | .dctS ps,_,M,Q=>Q (.ref M.length) (M++[.dct (Zn6 (ps.map fun q=>(.inr q.1,.str q.2)))])
 | .mt m o es,σ,M,Q=>te c X o σ M fun x M1=>mtK m x M1∧tes c X es σ M1 fun ds M2=>mtD m x ds M2 Q
 | .comp _ js tg it cd e,σ,M,Q=>tit c X it σ M fun own xs M1=>N0 own xs tg (tcd c noX cd) (te c noX e) M1.length xs (capD js σ) (M1++[.lst []]) fun M2=>Q (.ref M1.length) M2
def tbop(c:Cfg)(X:DX)(k:Bool):Es→DE
 | .nil,_,_,_=>False
 | .cons e .nil,σ,M,Q=>te c X e σ M Q
 | .cons e (.cons e2 r),σ,M,Q=>te c X e σ M fun x M1=>truD M1 x fun b=>if b=k then tbop c X k (.cons e2 r) σ M1 Q else Q x M1
def tes(c:Cfg)(X:DX):Es→DA
 | .nil,_,M,Q=>Q [] M
 | .cons e r,σ,M,Q=>te c X e σ M fun d M1=>tes c X r σ M1 fun ds M2=>Q (d::ds) M2
def teo(c:Cfg)(X:DX):Eo→DEnv→Z2→(Option Int→Z2→Prop)→Prop
 | .no,_,M,Q=>Q none M
 | .yes e,σ,M,Q=>te c X e σ M fun d M1=>match d with
  | .int i=>Q (some i) M1
  | _=>False
def tcd(c:Cfg)(X:DX):Eo→DT
 | .no,_,M,Q=>Q true M
 | .yes e,σ,M,Q=>te c X e σ M fun x M1=>truD M1 x fun b=>Q b M1
def tit(c:Cfg)(X:DX):It→DEnv→Z2→(Own→List D→Z2→Prop)→Prop
 | .seq e,σ,M,Q=>te c X e σ M fun d M1=>itD M1 d fun own xs=>Q own xs M1
 | .rng1 a,σ,M,Q=>te c X a σ M fun d M1=>match d with
  | .int j=> -(2 ^ 62)≤j∧j<2 ^ 62∧Q .no (Qj 0 j.toNat) M1
  | _=>False
 | .rng2 a b,σ,M,Q=>te c X a σ M fun d M1=>te c X b σ M1 fun d2 M2=>match d,d2 with
  | .int i,.int j=>(-(2 ^ 62)≤i∧i<2 ^ 62∧ -(2 ^ 62)≤j∧j<2 ^ 62)∧Q .no (Qj i (j - i).toNat) M2
  | _,_=>False
 | .enm e,σ,M,Q=>te c X e σ M fun d M1=>match d with
  | .ref n=>∃xs,Zf M1 n=some xs∧Q (.enm n) (Zf5 xs) M1
  | _=>False
 | .zip es,σ,M,Q=>tes c X es σ M fun ds M1=>at2 ds fun a b=>zip2 M1 a b fun o xs=>Q o xs M1
end
def tt(c:Cfg)(X:DX)(e:E):DT:=fun σ M Q=>te c X e σ M fun x M1=>truD M1 x fun b=>Q b M1
mutual
def ts(c:Cfg)(X:DX):S→DS
 | .ret e,R,σ,M=>te c X e σ M R.rt
 | .expr e,R,σ,M=>te c X e σ M fun _ M1=>R.nx σ M1
 | .setL tg e,R,σ,M=>te c X e σ M fun d M1=>Q5 d fun n=>∃ds,Zf M1 n=some ds∧ds.length=tg.length∧R.nx ((tg.zip ds).foldl (fun σ p=>σ.set p.1 (some p.2)) σ) M1
 | .set tg e,R,σ,M=>te c X e σ M fun d M1=>tgD tg d σ fun σ'=>R.nx σ' M1
 | .put o i v,R,σ,M=>te c X v σ M fun d M1=>te c X o σ M1 fun x M2=>te c X i σ M2 fun y M3=>match x with
  | .ref n=>(∃xs k j,y= .int k∧Z4 M3 n=some xs∧ixN xs.length k=some j∧R.nx σ (M3.set n (.lst (xs.set j d))))∨
    (∃kvs k,W8 M3 n=some kvs∧keyD y=some k∧kvs.length<sizeLine∧R.nx σ (M3.set n (.dct (putD kvs k d))))
  | _=>False
 | .ite t a b,R,σ,M=>tt c X t σ M fun r M1=>if r=true then tss c X a R σ M1 else tss c X b R σ M1
 | .for_ tg it b,R,σ,M=>tit c X it σ M fun own xs M1=>forD own xs tg (tss c X b) xs R σ M1
 | .while_ t b,R,σ,M=>∃W:Nat→DEnv→Z2→Prop,(∃m,W m σ M)∧∀m σ M,W m σ M→tt c X t σ M fun r M1=>if r=true then
   tss c X b {nx:=fun σ2 M2=>∃m',m'<m∧W m' σ2 M2,rt:=R.rt,bk:=R.nx,ct:=fun σ2 M2=>∃m',m'<m∧W m' σ2 M2} σ M1 else R.nx σ M1
def tss(c:Cfg)(X:DX):Ss→DS
 | .nil,R,σ,M=>R.nx σ M
 | .cons s r,R,σ,M=>ts c X s {R with nx:=fun σ' M'=>tss c X r R σ' M'} σ M
end
def REnv(w:Vw)(σD:DEnv)(σ:L2.St):Prop:=σD.length=σ.length∧∀(i:Nat) d,σD[i]?=some (some d)→∃v,σ[i]?=some (some v)∧RD w d v
theorem REnv.ext{w w':Vw}{σD:DEnv}{σ:L2.St}(h:REnv w σD σ)(x:Ext w w'):REnv w' σD σ:=
 ⟨h.1,fun i d e=>by obtain⟨v,q,r⟩:=h.2 i d e;exact⟨v,q,r.ext x⟩⟩
theorem REnv.set{w:Vw}{σD:DEnv}{σ:L2.St}{d:D}{v:V}(h:REnv w σD σ)(i:Nat)(r:RD w d v):REnv w (σD.set i (some d)) (σ.set i (some v)):=by
 refine⟨by simp[h.1],fun j d' e=>?_⟩
 by_cases hj:i=j
 ·subst hj
  by_cases hl:i<σD.length
  ·rw[List.getElem?_set_self hl] at e
   cases e
   exact⟨v,by rw[List.getElem?_set_self (by rw[←h.1];exact hl)],r⟩
  ·rw[List.getElem?_eq_none (by simp;omega)] at e
   cases e
 ·rw[List.getElem?_set_ne hj] at e
  rw[List.getElem?_set_ne hj]
  exact h.2 j d' e
structure StOk(w0 w:Vw)(σD:DEnv)(M:Z2)(σ:L2.St)(H:Hp):Prop where
 heap:w.H=H
 ext:Ext w0 w
 rs:RS w M
 env:REnv w σD σ
theorem StOk.next{w0 w w':Vw}{σD:DEnv}{M M':Z2}{σ:L2.St}{H:Hp}(s:StOk w0 w σD M σ H)(x:Ext w w')(r:RS w' M'):StOk w0 w' σD M' σ w'.H:=
 ⟨rfl,s.ext.trans x,r,s.env.ext x⟩
def Aft(w:Vw)(QD:DK)(Q:VK):Prop:=∀v w' d M',Ext w w'→RS w' M'→RD w' d v→QD d M'→Q v w'.H
def tF(w0:Vw)(f:DE):TE:=fun σ H Q=>∃w σD M QD,StOk w0 w σD M σ H∧f σD M QD∧Aft w QD Q
def tFA(w0:Vw)(f:DA):TA:=fun σ H Q=>∃w σD M QD,StOk w0 w σD M σ H∧f σD M QD∧∀vs w' ds M',Ext w w'→RS w' M'→RDs w' ds vs→QD ds M'→Q vs w'.H
def tFT(w0:Vw)(f:DT):TT:=fun σ H Q=>∃w σD M QD,StOk w0 w σD M σ H∧f σD M QD∧∀b w' M',Ext w w'→RS w' M'→QD b M'→Q b w'.H
def tFO(w0:Vw)(f:DEnv→Z2→(Option Int→Z2→Prop)→Prop):TO:=fun σ H Q=>∃w σD M QD,StOk w0 w σD M σ H∧f σD M QD∧∀b w' M',Ext w w'→RS w' M'→QD b M'→Q b w'.H
def tFS(w0:Vw)(f:DS):TS:=fun R σ H=>∃w σD M RD',StOk w0 w σD M σ H∧f RD' σD M∧
 (∀σ' w' σD' M',Ext w w'→RS w' M'→REnv w' σD' σ'→RD'.nx σD' M'→R.nx σ' w'.H)∧Aft w RD'.rt R.rt∧
 (∀σ' w' σD' M',Ext w w'→RS w' M'→REnv w' σD' σ'→RD'.bk σD' M'→R.bk σ' w'.H)∧
 (∀σ' w' σD' M',Ext w w'→RS w' M'→REnv w' σD' σ'→RD'.ct σD' M'→R.ct σ' w'.H)
def xkOf(w:Vw)(Z:DX):XK:=fun cls dd H'=>∃C dx r w' row M',cls= .ref C∧dd=some dx∧w'.H=H'∧Ext w w'∧RS w' M'∧H' dx=some (.xd [("row",r)])∧RD w' row r∧Z C row M'
def spF(K:PySem.W.Frag)(sp:DSp):Sp:=fun vs H Q E=>∃w ds M QD Z,w.K=K∧w.H=H∧RS w M∧RDs w ds vs∧sp ds M QD Z∧Aft w QD Q∧∀cls dd H',xkOf w Z cls dd H'→E cls dd H'
theorem Aft.ext{w w':Vw}{QD:DK}{Q:VK}(h:Aft w QD Q)(x:Ext w w'):Aft w' QD Q:=fun v w2 d M y r q p=>h v w2 d M (x.trans y) r q p
section
variable{X:Cx}{e:Expr}{w0:Vw}
theorem PE.imp{t t':TE}(h:PE X e t)(k:∀σ H Q,t' σ H Q→t σ H Q):PE X e t':=fun pins s σ H Q I q=>h pins s σ H Q I (k σ H Q q)
theorem PT.imp{t t':TT}(h:PT X e t)(k:∀σ H Q,t' σ H Q→t σ H Q):PT X e t':=fun pins s σ H Q I q=>h pins s σ H Q I (k σ H Q q)
theorem PA.imp{es:List Expr}{t t':TA}(h:PA X es t)(k:∀σ H Q,t' σ H Q→t σ H Q):PA X es t':=fun pos pins s σ H Q I q=>h pos pins s σ H Q I (k σ H Q q)
theorem PS.imp{st:Stmt}{t t':TS}(h:PS X st t)(k:∀R σ H,t' R σ H→t R σ H):PS X st t':=fun pins s σ H R I q=>h pins s σ H R I (k R σ H q)
theorem PSs.imp{st:List Stmt}{t t':TS}(h:PSs X st t)(k:∀R σ H,t' R σ H→t R σ H):PSs X st t':=fun pins s σ H R I q=>h pins s σ H R I (k R σ H q)
end
def rF(w0:Vw)(g:D→D→Z2→DK→Prop):R2:=fun x y H Q=>∃w M dx dy QD,w.H=H∧Ext w0 w∧RS w M∧RD w dx x∧RD w dy y∧g dx dy M QD∧Aft w QD Q
theorem Zg{w:Vw}{i:Int}{v:V}:RD w (.int i) v↔v= .int i:=by unfold RD;exact Iff.rfl
theorem Zw{w:Vw}{i:Str}{v:V}:RD w (.str i) v↔v= .str i:=by unfold RD;exact Iff.rfl
theorem Xw{w:Vw}{i:Bool}{v:V}:RD w (.bl i) v↔v= .bl i:=by unfold RD;exact Iff.rfl
theorem Yi{w:Vw}{v:V}:RD w .non v↔v= .non:=by unfold RD;exact Iff.rfl
theorem Zn2{w:Vw}{n:String}{v:V}:RD w (.ty n) v↔v= .ty n:=by unfold RD;exact Iff.rfl
theorem Zj1{w:Vw}{n:Addr}{v:V}:RD w (.cls n) v↔v= .ref n:=by unfold RD;exact Iff.rfl
theorem Zp{w:Vw}{i:Nat}{v:V}:RD w (.ref i) v↔i<w.n∧v= .ref (w.μ i):=by unfold RD;exact Iff.rfl
theorem X3{w:Vw}{ds:List D}{v:V}:RD w (.tup ds) v↔∃a vs,v= .ref a∧w.H a=some (.tup vs)∧RDs w ds vs:=by unfold RD;exact Iff.rfl
theorem T3{w:Vw}{ds:List D}{v:V}:RD w (.gtup ds) v↔∃a vs,v= .ref a∧SqT w.K w.H a vs∧RDs w ds vs:=by unfold RD;exact Iff.rfl
theorem Fg{w:Vw}{e C dx:Addr}{row:D}{v:V}:RD w (.exn e C dx row) v↔v= .ref e∧w.H e=some (XO e (.ref C) (some dx))∧∃r,w.H dx=some (.xd [("row",r)])∧RD w row r:=Iff.of_eq (by rw[RD])
theorem RDs.empty{w:Vw}{ds:List D}(h:RDs w ds []):ds=[]:=by
 have:=h.length
 exact List.length_eq_zero_iff.mp this.symm
theorem Zp0{M:Z2}{n:Nat}{xs:List D}(h:Z4 M n=some xs):Zf M n=some xs:=by
 unfold Z4 at h
 unfold Zf
 split at h
 ·rename_i e;rw[e];exact h
 ·cases h
theorem Oi{M:Z2}{n:Nat}{xs:List D}(h:Z4 M n=some xs):M[n]?=some (.lst xs):=by
 unfold Z4 at h
 split at h
 ·rename_i e;rw[e];cases h;rfl
 ·cases h
theorem Ot{M:Z2}{n:Nat}{xs:List (Key×D)}(h:W8 M n=some xs):M[n]?=some (.dct xs):=by
 unfold W8 at h
 split at h
 ·rename_i e;rw[e];cases h;rfl
 ·cases h
theorem RS.list{w:Vw}{M:Z2}{n:Nat}{xs:List D}(R:RS w M)(h:Z4 M n=some xs):M[n]?=some (.lst xs)∧∃vs,w.H (w.μ n)=some (.lst vs)∧RDs w xs vs:=
 ⟨Oi h,R.cell n _ (Oi h)⟩
theorem RS.listL{w:Vw}{M:Z2}{n:Nat}{xs:List D}(R:RS w M)(h:Zf M n=some xs):n<w.n∧∃vs,SqL w.K w.H (w.μ n) vs∧RDs w xs vs∧True:=by
 unfold Zf at h
 split at h
 ·rename_i ys e
  cases h
  obtain⟨vs,q,r⟩:=R.cell n _ e
  exact⟨by rw[R.len];exact(List.getElem?_eq_some_iff.mp e).1,vs,.inl (.inl q),r,trivial⟩
 ·rename_i ys e
  cases h
  obtain⟨vs,q,r⟩:=R.cell n _ e
  exact⟨by rw[R.len];exact(List.getElem?_eq_some_iff.mp e).1,vs,q.sq,r,trivial⟩
 ·cases h
theorem Zn1{M:Z2}{n:Nat}{xs:List (Key×D)}(h:W8 M n=some xs):Bh M n=some xs:=by
 unfold Bh;rw[Ot h]
theorem RS.dictF{w:Vw}{M:Z2}{n:Nat}{xs:List (Key×D)}(R:RS w M)(h:Bh M n=some xs):∃vs,Rd w.H (w.μ n) (.dK vs)∧RKV w xs vs:=by
 unfold Bh at h
 split at h
 ·rename_i ys e
  cases h
  obtain⟨vs,q1,q2⟩:=R.cell n _ e
  exact⟨vs,.inl q1,q2⟩
 ·rename_i ys e
  cases h
  obtain⟨o,vs,q1,q2⟩:=R.cell n _ e
  exact⟨vs,.inr ⟨o,q1⟩,q2⟩
 ·cases h
theorem RS.dict{w:Vw}{M:Z2}{n:Nat}{xs:List (Key×D)}(R:RS w M)(h:W8 M n=some xs):M[n]?=some (.dct xs)∧∃vs,w.H (w.μ n)=some (.dK vs)∧RKV w xs vs:=
 ⟨Ot h,R.cell n _ (Ot h)⟩
theorem Wn{w:Vw}{M:Z2}{p:Addr}{xs:List D}{vs:List V}(R:RS w M)(hp:w.H p=none)(r:RDs w xs vs):Ext w (w.push p (.lst vs))∧RS (w.push p (.lst vs)) (M++[.lst xs])∧RD (w.push p (.lst vs)) (.ref M.length) (.ref p):=by
 refine⟨Tk hp,R.push hp ⟨vs,Yg,r.ext (Tk hp)⟩,Zp.mpr ⟨?_,?_⟩⟩
 ·show M.length<w.n+1
  rw[R.len];omega
 ·show V.ref p=V.ref (if M.length=w.n then p else w.μ M.length)
  rw[if_pos R.len.symm]
theorem E2{w:Vw}{M:Z2}{p:Addr}{xs:List (Key×D)}{vs:List (Key×V)}(R:RS w M)(hp:w.H p=none)(r:RKV w xs vs):Ext w (w.push p (.dK vs))∧RS (w.push p (.dK vs)) (M++[.dct xs])∧RD (w.push p (.dK vs)) (.ref M.length) (.ref p):=by
 refine⟨Tk hp,R.push hp ⟨vs,Yg,r.ext (Tk hp)⟩,Zp.mpr ⟨?_,?_⟩⟩
 ·show M.length<w.n+1
  rw[R.len];omega
 ·show V.ref p=V.ref (if M.length=w.n then p else w.μ M.length)
  rw[if_pos R.len.symm]
theorem T0{w:Vw}{M:Z2}{p:Addr}{xs:List D}{vs:List V}(R:RS w M)(hp:w.H p=none)(r:RDs w xs vs):Ext w (w.alloc p (.tup vs))∧RS (w.alloc p (.tup vs)) M∧RD (w.alloc p (.tup vs)) (.tup xs) (.ref p):=
 ⟨Vh hp,R.alloc hp,X3.mpr ⟨p,vs,rfl,Yg,r.ext (Vh hp)⟩⟩
theorem Xc{w:Vw}{M:Z2}{n:Nat}{us vs:List V}{ys xs:List D}(R:RS w M)(hn:M[n]?=some (.lst ys))(h:w.H (w.μ n)=some (.lst us))(r:RDs w xs vs):Ext w (w.alloc (w.μ n) (.lst vs))∧RS (w.alloc (w.μ n) (.lst vs)) (M.set n (.lst xs)):=
 ⟨V0 h rfl,R.write hn rfl rfl h rfl ⟨vs,Yg,r.ext (V0 h rfl)⟩⟩
theorem Ph{w:Vw}{M:Z2}{n:Nat}{us vs:List (Key×V)}{ys xs:List (Key×D)}(R:RS w M)(hn:M[n]?=some (.dct ys))(h:w.H (w.μ n)=some (.dK us))(r:RKV w xs vs):Ext w (w.alloc (w.μ n) (.dK vs))∧RS (w.alloc (w.μ n) (.dK vs)) (M.set n (.dct xs)):=
 ⟨V0 h rfl,R.write hn rfl rfl h rfl ⟨vs,Yg,r.ext (V0 h rfl)⟩⟩
section
variable{X:Cx}{w0:Vw}
theorem Tv{f:Value→Value→Sem Value}{g:Int→Int→V}{o:D→D→Z2→DK→Prop}{C:Int→Int→Prop}{k:Int→Int→D}(h:OpR X f (rI C g))(hk:∀w i j,RD w (k i j) (g i j))
  {pins:List (Addr×Obj)} {s:Shared} {σ:L2.St} {x y:V} {v u:Value} {Q:VK} {w:Vw} {M:Z2} {QD:DK} {i j:Int} (I:Inv X pins σ w.H s) (rx:RelV x v) (ry:RelV y u) (R:RS w M) (hx:RD w (.int i) x) (hy:RD w (.int j) y)
  (hc:C i j) (q:QD (k i j) M) (a:Aft w QD Q):wpAny (model X.prog X.w) X.A (f v u) (EP X pins σ Q) X.xe s:=by
 cases Zg.mp hx
 cases Zg.mp hy
 exact h pins s σ w.H _ _ v u Q I rx ry ⟨i,j,rfl,rfl,hc,a _ w _ M (Ext.refl w) R (hk w i j) q⟩
noncomputable def opOf:Op→Operator
 | .add=> .Add | .sub=> .Sub | .mul=> .Mult | .fdiv=> .FloorDiv | .mod=> .Mod | .pow=> .Pow
theorem Zu8{f:Value→Value→Sem Value}{g:Int→Int→V}(h:OpR X f (rI0 g)):OpR X f (rI (fun _ _=>True) g):=fun pins s σ H x y v u Q I rx ry zz64=>by obtain⟨i,j,e1,e2,_,q⟩:=zz64;exact h pins s σ H x y v u Q I rx ry ⟨i,j,e1,e2,q⟩
theorem RDs.rep{w:Vw}{xs:List D}{vs:List V}(h:RDs w xs vs):∀n:Nat,RDs w (List.replicate n xs).flatten (List.replicate n vs).flatten
 | 0=>RDs.nil w
 | n+1=>by
  rw[List.replicate_succ,List.replicate_succ,List.flatten_cons,List.flatten_cons]
  exact h.append (RDs.rep h n)
theorem Zb9(op:Op):OpR X (binaryOp (opOf op)) (rF w0 (opD op)):=by
 intro pins s σ H x y v u Q I rx ry h
 obtain⟨w,M,dx,dy,QD,rfl,e0,R,hx,hy,g,a⟩:=h
 have ri:∀w (i:Int),RD w (.int i) (.int i):=fun w i=>Zg.mpr rfl
 cases op with
 | add=>
  cases dx with
  | int i=>
   obtain⟨j,rfl,g2⟩:=V3 g;clear g;have g:=g2
   exact Tv (o:=opD .add) (C:=fun _ _=>True) (k:=fun i j=> .int (i+j)) (Zu8 Zu4) (fun w i j=>ri w _) I rx ry R hx hy trivial g a
  | str z=>
   cases dy with
   | str z2=>
    cases Zw.mp hx;cases Zw.mp hy
    exact Et pins s σ w.H _ _ v u Q I rx ry ⟨_,_,rfl,rfl,g.1,a _ w _ M (Ext.refl w) R (Zw.mpr rfl) g.2⟩
   | _=>exact False.elim g
  | tup l=>
   obtain⟨l2,rfl,g2⟩:=Rm g;clear g;have g:=g2
   obtain⟨a1,vs1,rfl,h1,r1⟩:=X3.mp hx
   obtain⟨a2,vs2,rfl,h2,r2⟩:=X3.mp hy
   obtain⟨g1,g2,g3⟩:=g
   refine Zs7 pins s σ w.H _ _ v u Q I rx ry ⟨a1,a2,vs1,vs2,rfl,rfl,.of h1,.of h2,?_,by rw[r1.length,r2.length];exact g2,fun z=>?_,fun _ p hp=>?_⟩
   ·intro z;subst z;have:=r1.length;simp at this;exact g1 (List.length_eq_zero_iff.mp this.symm)
   ·subst z
    cases r2.empty
    rw[List.append_nil] at g3
    exact a _ w _ M (Ext.refl w) R hx g3
   ·obtain⟨x1,x2,x3⟩:=T0 R hp (r1.append r2)
    exact a _ _ _ M x1 x2 x3 g3
  | ref n=>
   obtain⟨n2,rfl,g2⟩:=Ys g;clear g;have g:=g2
   obtain⟨h1,rfl⟩:=Zp.mp hx
   obtain⟨h2,rfl⟩:=Zp.mp hy
   obtain⟨xs,ys,g1,g2,g3,g4⟩:=g
   obtain⟨_,vs1,q1,r1⟩:=R.list g1
   obtain⟨_,vs2,q2,r2⟩:=R.list g2
   refine Zv2 pins s σ w.H _ _ v u Q I rx ry ⟨_,_,vs1,vs2,rfl,rfl,q1,q2,by rw[r1.length,r2.length];exact g3,fun p hp=>?_⟩
   obtain⟨x1,x2,x3⟩:=Wn R hp (r1.append r2)
   exact a _ _ _ _ x1 x2 x3 g4
  | _=>exact False.elim g
 | mul=>
  cases dx with
  | int i=>
   obtain⟨j,rfl,g2⟩:=V3 g;clear g;have g:=g2
   exact Tv (o:=opD .add) (C:=IntMulOk) (k:=fun i j=> .int (i * j)) Zp1 (fun w i j=>ri w _) I rx ry R hx hy g.1 g.2 a
  | ref n=>
   obtain⟨k,rfl,g2⟩:=V3 g;clear g;have g:=g2
   obtain⟨h1,rfl⟩:=Zp.mp hx
   cases Zg.mp hy
   obtain⟨xs,g1,g2,g3,g4,g5⟩:=g
   obtain⟨_,vs1,q1,r1⟩:=R.list g1
   refine Zw8 pins s σ w.H _ _ v u Q I rx ry ⟨_,_,vs1,rfl,rfl,q1,by omega,by omega,by rw[r1.length];exact g4,fun p hp=>?_⟩
   obtain⟨x1,x2,x3⟩:=Wn R hp (r1.rep _)
   exact a _ _ _ _ x1 x2 x3 g5
  | _=>exact False.elim g
 | sub=>
  obtain⟨i,j,rfl,rfl,g2⟩:=X4 g;clear g;have g:=g2
  exact Tv (o:=opD .add) (C:=fun _ _=>True) (k:=fun i j=> .int (i - j)) (Zu8 Zw1) (fun w i j=>ri w _) I rx ry R hx hy trivial g a
 | fdiv=>
  obtain⟨i,j,rfl,rfl,g2⟩:=X4 g;clear g;have g:=g2
  exact Tv (o:=opD .add) (C:=Z16) (k:=fun i j=> .int (qdiv i j)) Ze5 (fun w i j=>by rw[Zr7];exact ri w _) I rx ry R hx hy g.1 g.2 a
 | mod=>
  obtain⟨i,j,rfl,rfl,g2⟩:=X4 g;clear g;have g:=g2
  exact Tv (o:=opD .add) (C:=fun _ j=>j≠0) (k:=fun i j=> .int (qmod i j)) Zr2 (fun w i j=>by rw[Zo0];exact ri w _) I rx ry R hx hy g.1 g.2 a
 | pow=>
  obtain⟨i,j,rfl,rfl,g2⟩:=X4 g;clear g;have g:=g2
  exact Tv (o:=opD .add) (C:=CPow) (k:=fun i j=> .int (i ^ j.toNat)) Y01 (fun w i j=>ri w _) I rx ry R hx hy g.1 g.2 a
end
def rB(w0:Vw)(g:Z2→D→D→(Bool→Prop)→Prop):R2:=fun x y H Q=>∃w M dx dy QD,w.H=H∧w.K=w0.K∧RS w M∧RD w dx x∧RD w dy y∧g M dx dy QD∧∀b,QD b→Q (.bl b) H
mutual
theorem Z10{w:Vw}{M:Z2}(R:RS w M):∀(da:PyData) {d:D} {v:V},PD M da d→RD w d v→Rep w.K w.H da v
 | .none,d,v,h,r=>by unfold PD at h;subst h;unfold Rep;exact Yi.mp r
 | .bool b,d,v,h,r=>by unfold PD at h;subst h;unfold Rep;exact Xw.mp r
 | .int b,d,v,h,r=>by unfold PD at h;subst h;unfold Rep;exact Zg.mp r
 | .str b,d,v,h,r=>by unfold PD at h;subst h;unfold Rep;exact Zw.mp r
 | .list xs,d,v,h,r=>by
  unfold PD at h
  obtain⟨n,ds,rfl,h1,h2⟩:=h
  obtain⟨_,rfl⟩:=Zp.mp r
  obtain⟨_,vs,q1,q2,_⟩:=R.listL h1
  unfold Rep
  exact⟨_,vs,rfl,q1,Rp R xs h2 q2⟩
 | .tuple xs,d,v,h,r=>by
  unfold PD at h
  obtain⟨ds,rfl,h2⟩:=h
  obtain⟨a,vs,rfl,q1,q2⟩:=X3.mp r
  unfold Rep
  exact⟨_,vs,rfl,.of q1,Rp R xs h2 q2⟩
 | .dict _,d,v,h,r=>by unfold PD at h;exact h.elim
theorem Rp{w:Vw}{M:Z2}(R:RS w M):∀(xs:List PyData) {ds:List D} {vs:List V},PDs M xs ds→RDs w ds vs→Wd w.K w.H xs vs
 | [],ds,vs,h,r=>by unfold PDs at h;subst h;unfold RDs at r;unfold Wd;exact r
 | x::xs,ds,vs,h,r=>by
  unfold PDs at h
  obtain⟨d,r',rfl,h1,h2⟩:=h
  unfold RDs at r
  obtain⟨v,r2,rfl,q1,q2⟩:=r
  unfold Wd
  exact⟨v,r2,rfl,Z10 R x h1 q1,Rp R xs h2 q2⟩
end
theorem Vo{w:Vw}{d:D}{v:V}(f:Y8 d=true)(r:RD w d v):Wa v=true:=by
 cases d<;>simp[Y8] at f
 ·cases Yi.mp r;rfl
 ·cases Xw.mp r;rfl
 ·cases Zg.mp r;rfl
 ·cases Zw.mp r;rfl
theorem Js{w:Vw}{d e:D}{v u:V}(f:Y8 d=true)(g:Y8 e=true)(r:RD w d v)(q:RD w e u):eqV v u=eqF d e:=by
 cases d<;>simp[Y8] at f
 all_goals (cases e<;>simp[Y8] at g)
 all_goals first
  |(first | cases Yi.mp r | cases Xw.mp r | cases Zg.mp r | cases Zw.mp r)
 all_goals first
  |(first | cases Yi.mp q | cases Xw.mp q | cases Zg.mp q | cases Zw.mp q)
 all_goals rfl
theorem Zi0{w:Vw}{x:D}{v:V}(f:Y8 x=true)(r:RD w x v):∀{ds:List D} {vs:List V},ds.all Y8=true→RDs w ds vs→inV v vs=inD x ds∧vs.all Wa=true
 | [],vs,_,h=>by unfold RDs at h;subst h;exact⟨rfl,rfl⟩
 | d::ds,vs,g,h=>by
  unfold RDs at h
  obtain⟨v1,r1,rfl,h1,h2⟩:=h
  simp only[List.all_cons,Bool.and_eq_true] at g
  obtain⟨i1,i2⟩:=Zi0 f r g.2 h2
  refine⟨?_,by simp only[List.all_cons,Bool.and_eq_true];exact⟨Vo g.1 h1,i2⟩⟩
  unfold inV inD at *
  rw[List.any_cons,List.any_cons,Js g.1 f h1 r,i1]
theorem RKV.val{w:Vw}:∀{ds:List (Key×D)} {vs:List (Key×V)} (k:Key),RKV w ds vs→(valD ds k=none∧valV vs k=none)∨∃d v,valD ds k=some d∧valV vs k=some v∧RD w d v
 | [],vs,k,h=>by unfold RKV at h;subst h;exact .inl ⟨rfl,rfl⟩
 |(k',d)::ds,vs,k,h=>by
  unfold RKV at h
  obtain⟨v,r,rfl,h1,h2⟩:=h
  by_cases e:k'=k
  ·exact .inr ⟨d,v,by simp[valD,List.find?_cons,e],by simp[valV,List.find?_cons,e],h1⟩
  ·have:=RKV.val k h2
   simpa[valD,valV,List.find?_cons,e] using this
theorem RKV.length{w:Vw}:∀{ds:List (Key×D)} {vs:List (Key×V)},RKV w ds vs→vs.length=ds.length
 | [],vs,h=>by unfold RKV at h;subst h;rfl
 |(k',d)::ds,vs,h=>by
  unfold RKV at h
  obtain⟨v,r,rfl,h1,h2⟩:=h
  simp[RKV.length h2]
theorem RKV.any{w:Vw}(k:Key):∀{ds:List (Key×D)} {vs:List (Key×V)},RKV w ds vs→(vs.any fun kv=>decide (kv.1=k))=(ds.any fun kv=>decide (kv.1=k))
 | [],vs,h=>by unfold RKV at h;subst h;rfl
 |(k',d)::ds,vs,h=>by
  unfold RKV at h
  obtain⟨v,r,rfl,h1,h2⟩:=h
  simp[RKV.any k h2]
theorem RKV.repl{w:Vw}{k:Key}{d:D}{v:V}(q:RD w d v):∀{ds:List (Key×D)} {vs:List (Key×V)},RKV w ds vs→RKV w (ds.map fun kv=>if kv.1=k then(kv.1,d) else kv) (vs.map fun kv=>if kv.1=k then(kv.1,v) else kv)
 | [],vs,h=>by unfold RKV at h;subst h;unfold RKV;rfl
 |(k',d')::ds,vs,h=>by
  unfold RKV at h
  obtain⟨v',r,rfl,h1,h2⟩:=h
  simp only[List.map_cons]
  by_cases e:k'=k
  ·rw[if_pos e,if_pos e]
   unfold RKV
   exact⟨v,_,rfl,q,RKV.repl q h2⟩
  ·rw[if_neg e,if_neg e]
   unfold RKV
   exact⟨v',_,rfl,h1,RKV.repl q h2⟩
theorem RKV.snoc{w:Vw}{k:Key}{d:D}{v:V}(q:RD w d v):∀{ds:List (Key×D)} {vs:List (Key×V)},RKV w ds vs→RKV w (ds++[(k,d)]) (vs++[(k,v)])
 | [],vs,h=>by unfold RKV at h;subst h;unfold RKV;exact⟨v,[],rfl,q,by unfold RKV;rfl⟩
 |(k',d')::ds,vs,h=>by
  unfold RKV at h
  obtain⟨v',r,rfl,h1,h2⟩:=h
  show RKV w ((k',d')::(ds++[(k,d)])) _
  unfold RKV
  exact⟨v',_,rfl,h1,RKV.snoc q h2⟩
theorem RKV.put{w:Vw}{k:Key}{d:D}{v:V}(q:RD w d v){ds:List (Key×D)}{vs:List (Key×V)}(h:RKV w ds vs):RKV w (putD ds k d) (putK vs k v):=by
 unfold putD putK
 rw[h.any k]
 split
 ·exact h.repl q
 ·exact h.snoc q
theorem Ou{w:Vw}{d:D}{k:Key}{v:V}(h:keyD d=some k)(r:RD w d v):v=kV k:=by
 cases d<;>simp[keyD] at h
 ·subst h;exact Zg.mp r
 ·subst h;exact Zw.mp r
section
variable{X:Cx}{w0:Vw}
noncomputable def cmOf:Cm→CmpOp
 | .lt=> .Lt | .gt=> .Gt | .ge=> .GtE | .eq=> .Eq | .ne=> .NotEq | .is=> .Is | .isin=> .In | .notin=> .NotIn
theorem Zz4(hu:X.A.units+64<cLine):OpR X (compareOp .NotEq) (rEqD X.K true):=by
 intro pins s σ H x y v u Q I rx ry h
 obtain⟨da,db,h1,h2,h3,h4,h5,q⟩:=h
 obtain⟨as,q1⟩:=Rep.reads I da x v h1 rx
 obtain⟨bs,q2⟩:=Rep.reads I db y u h2 ry
 exact PySem.SeqAt.compareNe_reads q1 q2 h3 h4 (by omega) ⟨.bl _,H,I,rfl,q⟩
theorem Nf{w:Vw}{pins:List (Addr×Obj)}{σ:L2.St}{s:Shared}{A:Around}{b:List (Key×D)}{vb:List (Key×V)}{ub:List (Key×Value)}(rb:RKV w b vb)(kb:KV vb ub)(fb:(b.all fun kv=>Y8 kv.2)=true):
  ∀{a:List (Key×D)} {va:List (Key×V)} {ua:List (Key×Value)},(a.all fun kv=>Y8 kv.2)=true→RKV w a va→KV va ua→PySem.W.KeqHits A s ub ua (a.all fun kv=>match valD b kv.1 with
   | some y=>eqF kv.2 y
   | none=>false)
 | [],va,ua,_,h,k=>by
  unfold RKV at h;subst h
  cases k
  exact .nil
 |(k0,d)::a,va,ua,f,h,k=>by
  unfold RKV at h
  obtain⟨v,r,rfl,h1,h2⟩:=h
  simp only[List.all_cons,Bool.and_eq_true] at f
  cases k with
  | @cons _ q _ ur hk kr=>
   obtain⟨k1,u⟩:=q
   obtain⟨e1,e2⟩:=hk
   dsimp only at e1 e2
   subst e1
   have ih:=Nf (A:=A) (s:=s) (pins:=pins) (σ:=σ) rb kb fb f.2 h2 kr
   rw[List.all_cons]
   rcases rb.val k0 with⟨n1,n2⟩ | ⟨y,vy,n1,n2,n3⟩
   ·have hz:=kb.val k0
    rw[n2] at hz
    have hz':valueAt ub k0=none:=RelO.none_of hz
    simp only[n1,Bool.false_and]
    exact .miss hz'
   ·have hz:=kb.val k0
    rw[n2] at hz
    obtain⟨uy,ey,ry⟩:=hz.some_of
    have fy:Y8 y=true:=by
     have hm:(k0,y)∈b:=by
      unfold valD at n1
      obtain⟨p,hp,e⟩:=Option.map_eq_some_iff.mp n1
      have:=List.find?_some hp
      have hk:p.1=k0:=of_decide_eq_true this
      have:=List.mem_of_find?_eq_some hp
      rw[←e,←hk];exact this
     exact(List.all_eq_true.mp fb) _ hm
    simp only[n1]
    refine .hit ey ?_ ih
    rw[←Js f.1 fy h1 n3]
    exact Fx e2 ry (Vo f.1 h1) (Vo fy n3)
theorem Wz{w:Vw}:∀{ds:List D} {vs:List V},ds.all Y8=true→RDs w ds vs→vs.all Wa=true
 | [],vs,_,r=>by unfold RDs at r;subst r;rfl
 | d::ds,vs,f,r=>by
  unfold RDs at r
  obtain⟨v,vr,rfl,h1,h2⟩:=r
  rw[List.all_cons,Bool.and_eq_true] at f
  rw[List.all_cons,Vo f.1 h1,Wz f.2 h2]
  rfl
theorem Gw{w:Vw}{xs ys:List D}{vs us:List V}(f:xs.all Y8=true)(g:ys.all Y8=true)(r:RDs w xs vs)(q:RDs w ys us):eqVs vs us=eqFs xs ys:=by
 unfold eqVs eqFs
 rw[r.length,q.length]
 congr 1
 have:∀j∈List.range (min xs.length ys.length),eqV (vs.getD j .non) (us.getD j .non)=eqF (xs.getD j .non) (ys.getD j .non):=by
  intro j hj
  rw[List.mem_range] at hj
  have j1:j<xs.length:=by omega
  have j2:j<ys.length:=by omega
  obtain⟨v,e1,r1⟩:=r.get (List.getElem?_eq_getElem j1)
  obtain⟨u,e2,r2⟩:=q.get (List.getElem?_eq_getElem j2)
  rw[List.all_eq_true] at f g
  simp only[List.getD_eq_getElem?_getD,e1,e2,List.getElem?_eq_getElem j1,List.getElem?_eq_getElem j2,Option.getD_some]
  exact Js (f _ (List.getElem_mem j1)) (g _ (List.getElem_mem j2)) r1 r2
 rw[Bool.eq_iff_iff,List.all_eq_true,List.all_eq_true]
 constructor
 ·intro h j hj;rw[←this j hj];exact h j hj
 ·intro h j hj;rw[this j hj];exact h j hj
theorem Ff(hK:X.K=w0.K)(hu:X.A.units+64<cLine)(neg:Bool):OpR X (compareOp (if neg then .NotEq else .Eq)) (rB w0 fun M x y Q=>eqD M x y fun b=>Q (if neg then !b else b)):=by
 intro pins s σ H x y v u Q I rx ry h
 obtain⟨w,M,dx,dy,QD,rfl,e0,R,hx,hy,g,a⟩:=h
 have key:∀b:Bool,(scal x y=true∧decide (x=y)=b)→QD (if neg then !b else b)→wpAny (model X.prog X.w) X.A (compareOp (if neg then .NotEq else .Eq) v u) (EP X pins σ Q) X.xe s:=by
  rintro b ⟨h1,h2⟩ hq
  cases neg with
  | true=>exact Y47 pins s σ w.H x y v u Q I rx ry ⟨h1,by rw[h2];exact a _ hq⟩
  | false=>exact Y32 pins s σ w.H x y v u Q I rx ry ⟨h1,by rw[h2];exact a _ hq⟩
 have hs:∀b,eqS dx dy=some b→scal x y=true∧decide (x=y)=b:=by
  intro b h
  cases dx with
  | int i=>
   cases Zg.mp hx
   cases dy with
   | int j=>cases Zg.mp hy;cases h;exact⟨rfl,by simp⟩
   | str j=>cases Zw.mp hy;cases h;exact⟨rfl,by simp⟩
   | non=>cases Yi.mp hy;cases h;exact⟨rfl,by simp⟩
   | _=>cases h
  | str i=>
   cases Zw.mp hx
   cases dy with
   | str j=>cases Zw.mp hy;cases h;exact⟨rfl,by simp⟩
   | int j=>cases Zg.mp hy;cases h;exact⟨rfl,by simp⟩
   | non=>cases Yi.mp hy;cases h;exact⟨rfl,by simp⟩
   | bl j=>cases Xw.mp hy;cases h;exact⟨rfl,by simp⟩
   | _=>cases h
  | bl i=>
   cases Xw.mp hx
   cases dy with
   | bl j=>cases Xw.mp hy;cases h;exact⟨rfl,by simp⟩
   | non=>cases Yi.mp hy;cases h;exact⟨rfl,by simp⟩
   | str j=>cases Zw.mp hy;cases h;exact⟨rfl,by simp⟩
   | _=>cases h
  | non=>
   cases Yi.mp hx
   cases dy with
   | non=>cases Yi.mp hy;cases h;exact⟨rfl,by simp⟩
   | int j=>cases Zg.mp hy;cases h;exact⟨rfl,by simp⟩
   | bl j=>cases Xw.mp hy;cases h;exact⟨rfl,by simp⟩
   | str j=>cases Zw.mp hy;cases h;exact⟨rfl,by simp⟩
   | _=>cases h
  | _=>cases h
 unfold eqD at g
 cases hb:eqS dx dy with
 | some b=>
  rw[hb] at g
  exact key b (hs b hb) g
 | none=>
  rw[hb] at g
  rcases g with⟨da,db,p1,p2,p3,p4,p5,g⟩ | ⟨m,n,ka,kb,rfl,rfl,p1,p2,f1,f2,g⟩ | ⟨m,n,xs,rfl,rfl,p1,p2,g⟩ | ⟨xs,ys,ex,ey,f1,f2,g⟩
  ·have q1:=Z10 R da p1 hx
   have q2:=Z10 R db p2 hy
   rw[e0,←hK] at q1 q2
   cases neg with
   | true=>exact Zz4 hu pins s σ w.H x y v u Q I rx ry ⟨da,db,q1,q2,p3,p4,p5,a _ g⟩
   | false=>exact Zz0 hu pins s σ w.H x y v u Q I rx ry ⟨da,db,q1,q2,p3,p4,p5,a _ g⟩
  ·obtain⟨_,rfl⟩:=Zp.mp hx
   obtain⟨_,rfl⟩:=Zp.mp hy
   obtain⟨_,va,ha,ra⟩:=R.dict p1
   obtain⟨_,vb,hb,rb⟩:=R.dict p2
   cases (show v=Value.ref (w.μ m) from rx)
   cases (show u=Value.ref (w.μ n) from ry)
   obtain⟨_,s1,ua,k1,d1⟩:=Zd9 I.hok ha
   obtain⟨_,s2,ub,k2,d2⟩:=Zd9 I.hok hb
   have hits:=Nf (A:=X.A.in1) (s:=s) (pins:=pins) (σ:=σ) rb k2 f2 f1 ra k1
   have hl:(ua.length==ub.length&&(ka.all fun kv=>match valD kb kv.1 with
    | some y=>eqF kv.2 y
    | none=>false))=eqKV ka kb:=by
    unfold eqKV
    rw[←k1.length,←k2.length,ra.length,rb.length]
    all_goals rfl
   cases neg with
   | true=>exact PySem.W.keq_ne s1 s2 d1 d2 (by omega) (fun _=>hits) ⟨.bl _,w.H,I,rfl,by rw[hl];exact a _ g⟩
   | false=>exact PySem.W.keq_eq s1 s2 d1 d2 (by omega) (fun _=>hits) ⟨.bl _,w.H,I,rfl,by rw[hl];exact a _ g⟩
  ·obtain⟨_,rfl⟩:=Zp.mp hx
   obtain⟨_,rfl⟩:=Zp.mp hy
   obtain⟨_,va,ha,ra,_⟩:=R.listL p1
   obtain⟨_,vb,hb,rb,_⟩:=R.listL p2
   rw[e0,←hK] at ha hb
   unfold RDs at rb
   subst rb
   cases (show v=Value.ref (w.μ m) from rx)
   cases (show u=Value.ref (w.μ n) from ry)
   have he:va.isEmpty=xs.isEmpty:=by have:=ra.length;cases va<;>cases xs<;>simp_all
   exact Zg4 I hu neg ha hb (by rw[he];exact a _ g)
  ·have tp:∀{d:D} {zs:List D} {x:V},(d= .tup zs∨d= .gtup zs)→RD w d x→∃p vs,x= .ref p∧SqT X.K w.H p vs∧RDs w zs vs:=by
    rintro d zs x (rfl | rfl) r
    ·obtain⟨p,vs,e,q1,q2⟩:=X3.mp r
     exact⟨p,vs,e,.of q1,q2⟩
    ·obtain⟨p,vs,e,q1,q2⟩:=T3.mp r
     rw[e0,←hK] at q1
     exact⟨p,vs,e,q1,q2⟩
   obtain⟨p,va,rfl,ha,ra⟩:=tp ex hx
   obtain⟨p2,vb,rfl,hb,rb⟩:=tp ey hy
   cases (show v=Value.ref p from rx)
   cases (show u=Value.ref p2 from ry)
   exact Zn3 I hu neg ha hb (Wz f1 ra) (Wz f2 rb) (by rw[Gw f1 f2 ra rb];exact a _ g)
theorem Jk{w:Vw}:∀{xs:List (List D)} {vs:List V},RDs w (xs.map .tup) vs→(xs.all fun zs=>zs.all Y8)=true→∃ts:List (List V),ts.length=vs.length∧(∀(j:Nat) u,vs[j]?=some u→∃a us,u= .ref a∧w.H a=some (.tup us)∧ts[j]?=some us∧us.all Wa=true)∧∀(ys:List D) (t:List V),ys.all Y8=true→RDs w ys t→(ts.any fun us=>eqVs us t)=xs.any fun zs=>eqFs zs ys
 | [],vs,h,_=>by
  rw[List.map_nil] at h
  unfold RDs at h
  subst h
  exact⟨[],rfl,fun j u e=>by simp at e,fun _ _ _ _=>rfl⟩
 | z::zs,vs,h,f=>by
  rw[List.map_cons] at h
  unfold RDs at h
  obtain⟨v,r,rfl,h1,h2⟩:=h
  rw[List.all_cons,Bool.and_eq_true] at f
  obtain⟨a,us,rfl,k1,k2⟩:=X3.mp h1
  obtain⟨ts,t1,t2,t3⟩:=Jk h2 f.2
  refine⟨us::ts,by rw[List.length_cons,List.length_cons,t1],fun j u e=>?_,fun ys t fy ry=>by rw[List.any_cons,List.any_cons,t3 ys t fy ry,Gw f.1 fy k2 ry]⟩
  cases j with
  | zero=>cases e;exact⟨a,us,rfl,k1,rfl,Wz f.1 k2⟩
  | succ j=>
   obtain⟨a',us',e1,e2,e3,e4⟩:=t2 j u (by simpa using e)
   exact⟨a',us',e1,e2,by simpa using e3,e4⟩
theorem Y30{pins:List (Addr×Obj)}{s:Shared}{σ:L2.St}{H:Hp}{Q:VK}(I:Inv X pins σ H s)(hu:X.A.units+64<cLine)(neg:Bool){p b:Addr}{xs:List V}{ts:List (List V)}{t:List V}(hx:SqL X.K H p xs)(hl:xs.length=ts.length)(ht:∀(j:Nat) u,xs[j]?=some u→∃a us,u= .ref a∧H a=some (.tup us)∧ts[j]?=some us∧us.all Wa=true)(hb:H b=some (.tup t))(ft:t.all Wa=true)
  (q:Q (.bl (if neg then !(ts.any fun us=>eqVs us t) else ts.any fun us=>eqVs us t)) H):
  wpAny (model X.prog X.w) X.A (compareOp (if neg then .NotIn else .In) (.ref b) (.ref p)) (EP X pins σ Q) X.xe s:=by
 obtain⟨its,r,pl,hz⟩:=I.list hx
 have at':∀(j:Nat) w,its[j]?=some w→∃a us,w= .ref a∧H a=some (.tup us)∧ts[j]?=some us∧us.all Wa=true:=by
  intro j w hw
  have hj:j<xs.length:=by rw[r.length];exact(List.getElem?_eq_some_iff.mp hw).1
  obtain⟨a,us,e1,e2,e3,e4⟩:=ht j xs[j] (List.getElem?_eq_getElem hj)
  obtain⟨w',w1,w2⟩:=r.get (List.getElem?_eq_getElem hj)
  rw[hw] at w1
  cases w1
  rw[e1] at w2
  cases w2
  exact⟨a,us,rfl,e2,e3,e4⟩
 have ev:∀(a:Addr) (us:List V),H a=some (.tup us)→eqUT H t (.ref a)=eqVs us t:=by
  intro a us e
  show(match H a with | some (.tup vs)=>eqVs vs t | _=>false)=_
  rw[e]
 have he:∀w∈its.toArray,SeqAt.EqAt X.A.in1 s w (.ref b) (eqUT H t w):=by
  intro w hw
  obtain⟨j,hj⟩:=List.getElem?_of_mem (show w∈its by simpa using hw)
  obtain⟨a,us,rfl,e2,e3,e4⟩:=at' j w hj
  rw[ev a _ e2]
  exact Zs9 I (by show X.A.units+1+2<cLine;omega) e2 hb e4 ft
 have any:its.toArray.any (eqUT H t)=ts.any fun us=>eqVs us t:=by
  rw[show its.toArray.any (eqUT H t)=its.any (eqUT H t) by simp]
  have:its.map (eqUT H t)=ts.map fun us=>eqVs us t:=by
   refine List.ext_getElem? fun j=>?_
   rw[List.getElem?_map,List.getElem?_map]
   cases hw:its[j]? with
   | none=>
    rw[List.getElem?_eq_none (by rw[←hl,r.length];exact List.getElem?_eq_none_iff.mp hw)]
    rfl
   | some w=>
    obtain⟨a,us,rfl,e2,e3,e4⟩:=at' j w hw
    rw[e3]
    show some _=some _
    rw[ev a _ e2]
  have e1:its.any (eqUT H t)=(its.map (eqUT H t)).any id:=by rw[List.any_map];rfl
  have e2:(ts.any fun us=>eqVs us t)=(ts.map fun us=>eqVs us t).any id:=by rw[List.any_map];rfl
  rw[e1,e2,this]
 cases neg with
 | true=>exact SeqAt.notIn_listAt (eqUT H t) pl.isList he ⟨.bl _,H,I,rfl,by rw[any];exact q⟩
 | false=>exact SeqAt.in_listAt (eqUT H t) pl.isList he ⟨.bl _,H,I,rfl,by rw[any];exact q⟩
theorem Fp(hK:X.K=w0.K)(hu:X.A.units+64<cLine)(neg:Bool):OpR X (compareOp (if neg then .NotIn else .In)) (rB w0 fun M x y Q=>inQ M x y fun b=>Q (if neg then !b else b)):=by
 intro pins s σ H x y v u Q I rx ry h
 obtain⟨w,M,dx,dy,QD,rfl,e0,R,hx,hy,g,a⟩:=h
 have seq:∀{p:Addr} {vs:List V} {xs:List D},y= .ref p→(SqL X.K w.H p vs∨SqT X.K w.H p vs)→RDs w xs vs→Y8 dx=true→xs.all Y8=true→QD (if neg then !inD dx xs else inD dx xs)→
   wpAny (model X.prog X.w) X.A (compareOp (if neg then .NotIn else .In) v u) (EP X pins σ Q) X.xe s:=by
  intro p vs xs ey q1 q2 g2 g3 g4
  obtain⟨i1,i2⟩:=Zi0 g2 hx g3 q2
  cases neg with
  | true=>exact Ny pins s σ w.H _ _ v u Q I rx ry ⟨p,vs,ey,q1,Vo g2 hx,i2,by rw[i1];exact a _ g4⟩
  | false=>exact Bz pins s σ w.H _ _ v u Q I rx ry ⟨p,vs,ey,q1,Vo g2 hx,i2,by rw[i1];exact a _ g4⟩
 unfold inQ at g
 split at g
 ·cases Zw.mp hx;cases Zw.mp hy
  cases neg with
  | true=>exact Jn pins s σ w.H _ _ v u Q I rx ry ⟨_,_,rfl,rfl,a _ g⟩
  | false=>exact Z49 pins s σ w.H _ _ v u Q I rx ry ⟨_,_,rfl,rfl,a _ g⟩
 ·obtain⟨_,rfl⟩:=Zp.mp hy
  rcases g with⟨xs,g1,g2,g3,g4⟩ | ⟨kvs,k,g1,g2,g3⟩ | ⟨ys,xs,rfl,g1,g2,g3,g4⟩
  ·obtain⟨_,vs,q1,q2,_⟩:=R.listL g1
   rw[e0,←hK] at q1
   exact seq rfl (.inl q1) q2 g2 g3 g4
  ·obtain⟨_,vs,q1,q2⟩:=R.dict g1
   cases Ou g2 hx
   cases (show u=Value.ref _ from ry)
   have hv:valV vs k=none∧valD kvs k=none∨∃d v',valD kvs k=some d∧valV vs k=some v':=by
    rcases q2.val k with⟨n1,n2⟩ | ⟨d,v',n1,n2,_⟩
    ·exact .inl ⟨n2,n1⟩
    ·exact .inr ⟨d,v',n1,n2⟩
   have hb:(valV vs k).isSome=(valD kvs k).isSome:=by
    rcases hv with⟨n1,n2⟩ | ⟨d,v',n1,n2⟩
    ·rw[n1,n2];rfl
    ·rw[n1,n2];rfl
   have hu1:X.A.units+1<cLine:=by omega
   cases neg with
   | true=>exact Zm3 hu1 I (DGet.k (k:=k) q1) rx fun s' I'=>⟨.bl (!(valV vs k).isSome),w.H,I',rfl,by rw[hb];exact a _ g3⟩
   | false=>exact d_in hu1 I (DGet.k (k:=k) q1) rx fun s' I'=>⟨.bl (valV vs k).isSome,w.H,I',rfl,by rw[hb];exact a _ g3⟩
  ·obtain⟨_,vs,q1,q2,_⟩:=R.listL g1
   rw[e0,←hK] at q1
   obtain⟨b,us,rfl,hb,rb⟩:=X3.mp hx
   cases (show v=Value.ref b from rx)
   cases (show u=Value.ref _ from ry)
   obtain⟨ts,h1,h2,h3⟩:=Jk q2 g3
   refine Y30 I hu neg q1 h1.symm h2 hb (Wz g2 rb) ?_
   rw[h3 _ _ g2 rb]
   exact a _ g4
 ·obtain⟨p,vs,e,q1,q2⟩:=X3.mp hy
  exact seq e (.inr (.of q1)) q2 g.1 g.2.1 g.2.2
 ·obtain⟨p,vs,e,q1,q2⟩:=T3.mp hy
  rw[e0,←hK] at q1
  exact seq e (.inr q1) q2 g.1 g.2.1 g.2.2
 ·exact g.elim
theorem Gn(hK:X.K=w0.K)(hu:X.A.units+64<cLine)(op:Cm):OpR X (compareOp (cmOf op)) (rB w0 fun M=>cmD M op):=by
 intro pins s σ H x y v u Q I rx ry h
 obtain⟨w,M,dx,dy,QD,rfl,e0,R,hx,hy,g,a⟩:=h
 cases op with
 | lt=>
  obtain⟨i,j,rfl,rfl,g2⟩:=X4 g;clear g;have g:=g2
  cases Zg.mp hx;cases Zg.mp hy
  exact Y53 pins s σ w.H _ _ v u Q I rx ry ⟨_,_,rfl,rfl,a _ g⟩
 | gt=>
  obtain⟨i,j,rfl,rfl,g2⟩:=X4 g;clear g;have g:=g2
  cases Zg.mp hx;cases Zg.mp hy
  exact Y42 pins s σ w.H _ _ v u Q I rx ry ⟨_,_,rfl,rfl,a _ g⟩
 | ge=>
  obtain⟨i,j,rfl,rfl,g2⟩:=X4 g;clear g;have g:=g2
  cases Zg.mp hx;cases Zg.mp hy
  exact Y16 pins s σ w.H _ _ v u Q I rx ry ⟨_,_,rfl,rfl,a _ g⟩
 | eq=>
  exact Ff hK hu false pins s σ w.H x y v u Q I rx ry ⟨w,M,_,_,QD,rfl,e0,R,hx,hy,g,a⟩
 | ne=>
  exact Ff hK hu true pins s σ w.H x y v u Q I rx ry ⟨w,M,_,_,QD,rfl,e0,R,hx,hy,g,a⟩
 | is=>
  cases dy with
  | non=>
   cases dx with
   | non=>
    cases Yi.mp hx;cases Yi.mp hy
    exact Q0 pins s σ w.H _ _ v u Q I rx ry ⟨rfl,a _ g⟩
   | bl b=>
    cases Xw.mp hx;cases Yi.mp hy
    exact Q0 pins s σ w.H _ _ v u Q I rx ry ⟨rfl,a _ g⟩
   | int i=>
    cases Zg.mp hx;cases Yi.mp hy
    exact Q0 pins s σ w.H _ _ v u Q I rx ry ⟨rfl,a _ g⟩
   | str z=>
    cases Zw.mp hx;cases Yi.mp hy
    exact Q0 pins s σ w.H _ _ v u Q I rx ry ⟨rfl,a _ g⟩
   | tup l=>
    obtain⟨_,_,rfl,_⟩:=X3.mp hx;cases Yi.mp hy
    exact Q0 pins s σ w.H _ _ v u Q I rx ry ⟨rfl,a _ g⟩
   | ref n=>
    obtain⟨_,rfl⟩:=Zp.mp hx;cases Yi.mp hy
    exact Q0 pins s σ w.H _ _ v u Q I rx ry ⟨rfl,a _ g⟩
   | exn e C d q=>
    obtain⟨rfl,_⟩:=Fg.mp hx;cases Yi.mp hy
    exact Q0 pins s σ w.H _ _ v u Q I rx ry ⟨rfl,a _ g⟩
   | _=>exact False.elim g
  | _=>exact False.elim g
 | isin=>
  exact Fp hK hu false pins s σ w.H x y v u Q I rx ry ⟨w,M,_,_,QD,rfl,e0,R,hx,hy,g,a⟩
 | notin=>
  exact Fp hK hu true pins s σ w.H x y v u Q I rx ry ⟨w,M,_,_,QD,rfl,e0,R,hx,hy,g,a⟩
end
theorem RKV.isEmpty{w:Vw}{ds:List (Key×D)}{vs:List (Key×V)}(h:RKV w ds vs):vs.isEmpty=ds.isEmpty:=by
 cases ds with
 | nil=>unfold RKV at h;subst h;rfl
 | cons p ds=>obtain⟨k,d⟩:=p;unfold RKV at h;obtain⟨v,r,rfl,_⟩:=h;rfl
theorem RDs.isEmpty{w:Vw}{ds:List D}{vs:List V}(h:RDs w ds vs):vs.isEmpty=ds.isEmpty:=by
 cases ds with
 | nil=>unfold RDs at h;subst h;rfl
 | cons d ds=>unfold RDs at h;obtain⟨v,r,rfl,_⟩:=h;rfl
theorem To{K:PySem.W.Frag}{w:Vw}{M:Z2}{d:D}{x:V}{QD:Bool→Prop}(hK:w.K=K)(R:RS w M)(r:RD w d x)(g:truD M d QD):∃k,TruV K x w.H k∧QD k:=by
 unfold truD at g
 split at g
 ·cases Yi.mp r;exact⟨_,rfl,g⟩
 ·cases Xw.mp r;exact⟨_,rfl,g⟩
 ·cases Zg.mp r;exact⟨_,rfl,g⟩
 ·cases Zw.mp r;exact⟨_,⟨g.1,rfl⟩,g.2⟩
 ·obtain⟨a,vs,rfl,q1,q2⟩:=X3.mp r
  exact⟨_,.inr (.inl ⟨vs,.of q1,rfl⟩),by rw[q2.isEmpty];exact g⟩
 ·obtain⟨_,rfl⟩:=Zp.mp r
  rcases g with⟨xs,g1,g2⟩ | ⟨xs,g1,g2⟩
  ·obtain⟨_,vs,q1,q2,_⟩:=R.listL g1
   rw[hK] at q1
   exact⟨_,.inl ⟨vs,q1,rfl⟩,by rw[q2.isEmpty];exact g2⟩
  ·obtain⟨_,vs,q1,q2⟩:=R.dict g1
   exact⟨_,.inr (.inr ⟨vs,q1,rfl⟩),by rw[q2.isEmpty];exact g2⟩
 ·exact g.elim
theorem G5{w:Vw}{xs:List D}{vs:List V}{i:Int}{d:D}(r:RDs w xs vs)(h:atI xs i=some d):∃v,atI vs i=some v∧RD w d v:=by
 unfold atI at *
 rw[r.length]
 obtain⟨j,h1,h2⟩:=Option.bind_eq_some_iff.mp h
 obtain⟨v,q1,q2⟩:=r.get h2
 exact⟨v,by rw[h1];exact q1,q2⟩
theorem Ge{w:Vw}{xs:List D}{vs:List V}{lo hi:Option Int}(r:RDs w xs vs):RDs w (cutD xs lo hi) (cutV vs lo hi):=by
 unfold cutD cutV
 rw[r.length]
 exact(r.drop _).take _
section
variable{X:Cx}{w0:Vw}
theorem Zl3(hu:X.A.units+1<cLine):IxR X (fun x y H Q=>∃a v,x= .ref a∧DGet H a y (some v)∧Q v H):=by
 intro value slice pins s σ H x y v u Q I rx ry h hs
 obtain⟨a,vv,rfl,g,q⟩:=h
 cases rx
 have hT:=Jy I g
 have h₂:wpAny (model X.prog X.w) X.A (getItem (.ref a) u) (EP X pins σ Q) X.xe s:=Z74 hu I g ry fun w' s3 I3 rw'=>⟨vv,H,I3,rw',q⟩
 unfold subscriptTail
 refine wpAny_bind ?_
 rw[getitemInPython_of_ne hT.not_modules]
 refine wpAny_bind (wpAny_specialOf hT PySem.F.slot_dict_getitem.lookup ?_)
 have fin:wpAny (model X.prog X.w) X.A (subscripted slice false (.ref a) u) (fun r s₃=>wpAny (model X.prog X.w) X.A (letTemporaryGo value (.ref a) r >>=fun _=>pure r) (EP X pins σ Q) X.xe s₃) X.xe s:=by
  rw[hs]
  exact wpAny_operating (wpAny_mono h₂ (fun r s₃ h₃=>wpAny_bind (wpAny_letTemporaryGo (wpAny_pure h₃))) fun _ _ x=>x)
 first
  | exact wpAny_pure (wpAny_bind fin)
  | exact wpAny_bind (wpAny_pure (wpAny_bind fin))
  | exact wpAny_bind fin
def rX(w0:Vw):R2:=fun x y H Q=>∃w M dx dy QD,w.H=H∧w.K=w0.K∧RS w M∧RD w dx x∧RD w dy y∧ixD M dx dy QD∧∀d v,QD d→RD w d v→Q v H
theorem Zd7(hK:X.K=w0.K)(hu:X.A.units+64<cLine):IxR X (rX w0):=by
 intro value slice pins s σ H x y v u Q I rx ry h hs
 obtain⟨w,M,dx,dy,QD,rfl,e0,R,hx,hy,g,a⟩:=h
 unfold ixD at g
 split at g
 ·obtain⟨_,rfl⟩:=Zp.mp hx
  rcases g with⟨xs,i,d,rfl,g1,g2,g3⟩ | ⟨kvs,k,d,g1,g2,g3,g4⟩
  ·cases Zg.mp hy
   obtain⟨_,vs,q1,q2,_⟩:=R.listL g1
   rw[e0,←hK] at q1
   obtain⟨vv,z1,z2⟩:=G5 q2 g2
   exact Zm0 value slice pins s σ w.H _ _ v u Q I rx ry ⟨_,vs,i,vv,rfl,rfl,q1,z1,a _ _ g3 z2⟩ hs
  ·obtain⟨vs,q1,q2⟩:=R.dictF g1
   cases Ou g2 hy
   rcases q2.val k with⟨n1,n2⟩ | ⟨d',v',n1,n2,n3⟩
   ·rw[n1] at g3;cases g3
   ·rw[n1] at g3;cases g3
    refine Zl3 (by omega) value slice pins s σ w.H _ _ v u Q I rx ry ⟨_,v',rfl,?_,a _ _ g4 n3⟩ hs
    have:DGet w.H (w.μ _) (kV k) (valV vs k):= .inl ⟨vs,k,q1,rfl,rfl⟩
    rw[n2] at this
    exact this
 ·cases Zg.mp hy
  obtain⟨p,vs,rfl,q1,q2⟩:=X3.mp hx
  obtain⟨d,g1,g2⟩:=g
  obtain⟨vv,z1,z2⟩:=G5 q2 g1
  exact Zh9 value slice pins s σ w.H _ _ v u Q I rx ry ⟨_,vs,_,vv,rfl,rfl,.of q1,z1,a _ _ g2 z2⟩ hs
 ·cases Zg.mp hy
  obtain⟨p,vs,rfl,q1,q2⟩:=T3.mp hx
  rw[e0,←hK] at q1
  obtain⟨d,g1,g2⟩:=g
  obtain⟨vv,z1,z2⟩:=G5 q2 g1
  exact Zh9 value slice pins s σ w.H _ _ v u Q I rx ry ⟨_,vs,_,vv,rfl,rfl,q1,z1,a _ _ g2 z2⟩ hs
 ·cases Zg.mp hy;cases Zw.mp hx
  obtain⟨g0,c,g1,g2⟩:=g
  exact Zx1 value slice pins s σ w.H _ _ v u Q I rx ry ⟨_,_,c,rfl,rfl,g0,g1,a _ _ g2 (Zw.mpr rfl)⟩ hs
 ·exact g.elim
theorem Zy3:SlR X (fun x lo hi H Q=>∃z,x= .str z∧z.length≤sizeLine∧Q (.str (Txt.slice z lo hi)) H):=by
 intro pins s σ H x v vl vu lo hi sl Q I rx hs pl pu h
 obtain⟨z,rfl,hz,q⟩:=h
 obtain⟨t,rfl⟩:=rx
 have key:∀l u:Option (Int×Tok),l.map (·.1)=lo→u.map (·.1)=hi→vl=partValue l→vu=partValue u→wpAny (model X.prog X.w) X.A (getItem (.str z t) (.ref sl)) (EP X pins σ Q) X.xe s:=by
  intro l u e1 e2 e3 e4
  subst e1 e2 e3 e4
  refine wpAny_getItem_str_slice (l:=l) (u:=u) (st:=none) hs rfl ?_
  exact post_val_or_str ⟨Nat.le_trans (Txt.slice_le z _ _) hz,fun t' k=>⟨.str (Txt.slice z _ _),H,I.tok _,⟨_,rfl⟩,q⟩⟩
 refine⟨"str",_,PySem.F.slot_str_getitem.lookup,typeIs_str _ _ _,?_⟩
 cases pl with
 | none=>
  cases pu with
  | none=>exact key none none rfl rfl rfl rfl
  | int j tj=>exact key none (some (j,tj)) rfl rfl rfl rfl
 | int i ti=>
  cases pu with
  | none=>exact key (some (i,ti)) none rfl rfl rfl rfl
  | int j tj=>exact key (some (i,ti)) (some (j,tj)) rfl rfl rfl rfl
def rSl(w0:Vw):V→Option Int→Option Int→Hp→VK→Prop:=fun x lo hi H Q=>∃w M dx QD,w.H=H∧w.K=w0.K∧RS w M∧RD w dx x∧slD dx lo hi M QD∧Aft w QD Q
theorem Zh1(hK:X.K=w0.K):SlR X (rSl w0):=by
 intro pins s σ H x v vl vu lo hi sl Q I rx hs pl pu h
 obtain⟨w,M,dx,QD,rfl,e0,R,hx,g,a⟩:=h
 unfold slD at g
 split at g
 ·cases Zw.mp hx
  exact Zy3 pins s σ w.H _ v vl vu _ _ sl Q I rx hs pl pu ⟨_,rfl,g.1,a _ w _ M (Ext.refl w) R (Zw.mpr rfl) g.2⟩
 ·obtain⟨_,rfl⟩:=Zp.mp hx
  obtain⟨xs,g1,g2⟩:=g
  obtain⟨_,vs,q1,q2,_⟩:=R.listL g1
  rw[e0,←hK] at q1
  refine Zn9 pins s σ w.H _ v vl vu _ _ sl Q I rx hs pl pu ⟨_,vs,rfl,q1,fun p hp=>?_⟩
  obtain⟨x1,x2,x3⟩:=Wn R hp (Ge (lo:=lo) (hi:=hi) q2)
  exact a _ _ _ _ x1 x2 x3 g2
 ·obtain⟨p,vs,rfl,q1,q2⟩:=X3.mp hx
  refine Zi1 pins s σ w.H _ v vl vu _ _ sl Q I rx hs pl pu ⟨_,vs,rfl,.of q1,by rw[q2.length];exact g.1,fun p hp=>?_⟩
  obtain⟨x1,x2,x3⟩:=T0 R hp (Ge (lo:=lo) (hi:=hi) q2)
  exact a _ _ _ _ x1 x2 x3 g.2
 ·exact g.elim
def rC(w0:Vw)(g:List D→Z2→DK→Prop):List V→Hp→VK→Prop:=fun xs H Q=>∃w M ds QD,w.H=H∧w.K=w0.K∧RS w M∧RDs w ds xs∧g ds M QD∧Aft w QD Q
noncomputable def bfOf:Bf→Str×Value
 | .len=>("len",.builtin "len") | .isinst=>("isinstance",.builtin "isinstance") | .min2=>("min",.builtin "min") | .max2=>("max",.builtin "max")
 | .int1=>("int",.type "int")
theorem rds1{w:Vw}{d:D}{xs:List V}(h:RDs w [d] xs):∃v,xs=[v]∧RD w d v:=by
 unfold RDs at h
 obtain⟨v,r,rfl,h1,h2⟩:=h
 unfold RDs at h2
 subst h2
 exact⟨v,rfl,h1⟩
theorem rds2{w:Vw}{d e:D}{xs:List V}(h:RDs w [d,e] xs):∃v u,xs=[v,u]∧RD w d v∧RD w e u:=by
 unfold RDs at h
 obtain⟨v,r,rfl,h1,h2⟩:=h
 obtain⟨u,rfl,h3⟩:=rds1 h2
 exact⟨v,u,rfl,h1,h3⟩
theorem rds0{w:Vw}{xs:List V}(h:RDs w [] xs):xs=[]:=by unfold RDs at h;exact h
theorem Z85{w:Vw}:∀{as:List Addr} {vs:List V},RDs w (as.map D.cls) vs→vs=as.map V.ref
 | [],vs,h=>rds0 h
 | a::r,vs,h=>by
  rw[List.map_cons] at h
  unfold RDs at h
  obtain⟨v,vs',rfl,h1,h2⟩:=h
  rw[Zj1.mp h1,Z85 h2]
  rfl
def Y38(K:PySem.W.Frag):List V→Hp→VK→Prop:=fun xs H Q=>∃(e C dx:Addr) (fs:List (Str×V)) (p:Addr) (as:List Addr) (b:Bool),xs=[.ref e,.ref p]∧H e=some (XO e (.ref C) (some dx))∧H dx=some (.xd fs)∧ExcIs K C∧H p=some (.tup (as.map V.ref))∧PySem.W.kitAny K (.ref C) (as.map Value.ref)=some b∧Q (.bl b) H
theorem Ni:∀{as:List Addr} {us:List Value},Vals (as.map V.ref) us→us=as.map Value.ref
 | [],us,h=>by cases h;rfl
 | a::r,us,h=>by
  cases h with
  | cons h1 h2=>
   obtain rfl:_=Value.ref a:=h1
   rw[Ni h2]
   rfl
theorem Z14{X:Cx}:Wt X (.builtin "isinstance") (Y38 X.K):=by
 intro pins s σ H xs us Q I r h
 obtain⟨e,C,dx,fs,p,as,b,rfl,he,hd,S,hp,k,q⟩:=h
 obtain⟨u,v,rfl,ru,rv⟩:=Ga r
 obtain rfl:u=Value.ref e:=ru
 obtain rfl:v=Value.ref p:=rv
 obtain⟨oe,od,mA,J,_⟩:=Fy I he hd
 obtain⟨its,r',⟨⟨oc,odd,dat,sl⟩,g1,g2,n,g3⟩,hz⟩:=I.tuple (.of hp)
 cases Ni r'
 dsimp only at g2 g3
 subst g2 g3
 exact PySem.W.kia_tup (Gj S) I.kIn J g1 k (fun z=>nomatch z) fun tk=>⟨.bl b,H,I.tok tk,rfl,q⟩
theorem Zw5{K:PySem.W.Frag}{w:Vw}{M:Z2}{d:D}{x:V}{t:String}(R:RS w M)(r:RD w d x)(h:tyD M d=some t):TyOf K w.H x (.type t):=by
 unfold tyD at h
 split at h
 ·cases h;cases Yi.mp r;exact .non
 ·cases h;cases Xw.mp r;exact .bl _
 ·cases h;cases Zg.mp r;exact .int _
 ·cases h;cases Zw.mp r;exact .str _
 ·cases h;obtain⟨a,vs,rfl,q,_⟩:=X3.mp r;exact .tup q
 ·obtain⟨_,rfl⟩:=Zp.mp r
  split at h
  ·rename_i e;cases h;obtain⟨vs,q,_⟩:=R.cell _ _ e;exact .lst q
  ·cases h
  ·rename_i e;cases h;obtain⟨vs,q,_⟩:=R.cell _ _ e;exact .dK q
  ·cases h
  ·cases h
 ·cases h
theorem Fz{w:Vw}:∀{ps:List (Key×D)} {qs:List (Key×V)} {ds:List (Key×D)} {vs:List (Key×V)},RKV w ps qs→RKV w ds vs→RKV w (ps.foldl (fun m p=>putD m p.1 p.2) ds) (qs.foldl (fun m p=>putK m p.1 p.2) vs)
 | [],qs,ds,vs,h,g=>by unfold RKV at h;subst h;exact g
 | p::ps,qs,ds,vs,h,g=>by
  unfold RKV at h
  obtain⟨v,r,rfl,h1,h2⟩:=h
  rw[List.foldl_cons,List.foldl_cons]
  exact Fz (ps:=ps) (qs:=r) h2 (RKV.put (k:=p.1) h1 g)
noncomputable def Rl:Bf→Bool
 | .min2 | .max2=>false
 | _=>true
theorem Z22:Wt X (.type "int") (fun xs H Q=>∃b,xs=[.bl b]∧Q (.int (if b then 1 else 0)) H):=by
 intro pins s σ H xs us Q I r h
 obtain⟨b,rfl,q⟩:=h
 obtain⟨u,rfl,e⟩:=Q6 r
 cases e
 exact call_int_bool ⟨.int _,H,I.tok _,⟨_,rfl⟩,q⟩
theorem Fo{w:Vw}:∀ns:List Int,RDs w (ns.map .int) (ns.map V.int)
 | []=>RDs.nil w
 | n::ns=>RDs.cons (Zg.mpr rfl) (Fo ns)
theorem Fk{w:Vw}:∀{ks:List Key} {vs:List V},RDs w (ks.map kD) vs→vs=ks.map kV
 | [],vs,h=>rds0 h
 | k::ks,vs,h=>by
  rw[List.map_cons] at h
  unfold RDs at h
  obtain⟨v,r,rfl,h1,h2⟩:=h
  rw[Fk h2]
  cases k with
  | inl i=>cases Zg.mp h1;rfl
  | inr x=>cases Zw.mp h1;rfl
theorem Zc2(hK:X.K=w0.K)(b:Bf)(hc:X.calm=true∨Rl b=true):Wt X (bfOf b).2 (rC w0 (bfD w0.K b)):=by
 intro pins s σ H xs us Q I r h
 obtain⟨w,M,ds,QD,rfl,e0,R,hx,g,a⟩:=h
 cases b with
 | len=>
  obtain⟨x,rfl,g2⟩:=Se g;clear g;have g:=g2
  cases x with
  | ref n=>
   obtain⟨v,rfl,r1⟩:=rds1 hx
   obtain⟨_,rfl⟩:=Zp.mp r1
   rcases g with⟨xs,g1,g2⟩ | ⟨xs,g1,g2⟩
   ·obtain⟨_,vs,q1,q2,_⟩:=R.listL g1
    rw[e0,←hK] at q1
    exact Sj pins s σ w.H _ us Q I r ⟨_,vs,rfl,.inl q1,a _ w _ M (Ext.refl w) R (Zg.mpr (by rw[q2.length])) g2⟩
   ·obtain⟨_,vs,q1,q2⟩:=R.dict g1
    exact Z58 pins s σ w.H _ us Q I r ⟨_,vs,rfl,q1,a _ w _ M (Ext.refl w) R (Zg.mpr (by rw[q2.length])) g2⟩
  | tup l=>
   obtain⟨v,rfl,r1⟩:=rds1 hx
   obtain⟨p,vs,rfl,q1,q2⟩:=X3.mp r1
   exact Sj pins s σ w.H _ us Q I r ⟨_,vs,rfl,.inr (.of q1),a _ w _ M (Ext.refl w) R (Zg.mpr (by rw[q2.length])) g⟩
  | str z=>
   obtain⟨v,rfl,r1⟩:=rds1 hx
   cases Zw.mp r1
   exact Nv pins s σ w.H _ us Q I r ⟨_,rfl,g.1,a _ w _ M (Ext.refl w) R (Zg.mpr rfl) g.2⟩
  | _=>exact False.elim g
 | isinst=>
  obtain⟨x,y,rfl,g2⟩:=Rr g;clear g;have g:=g2
  obtain⟨v,u,rfl,r1,r2⟩:=rds2 hx
  unfold isD at g
  split at g
  ·obtain⟨b,g1,g2,g3⟩:=g
   obtain⟨rfl,q1,row,q2,q3⟩:=Fg.mp r1
   cases Zj1.mp r2
   rw[←hK] at g1 g2
   exact Fh pins s σ w.H _ us Q I r ⟨_,_,_,_,_,_,b,rfl,q1,q2,g1,fun u hu=>hu,g2,a _ w _ M (Ext.refl w) R (Xw.mpr rfl) g3⟩
  ·obtain⟨b,g1,g2,g3⟩:=g
   obtain⟨rfl,q1,row,q2,q3⟩:=Fg.mp r1
   cases Zn2.mp r2
   rw[←hK] at g1 g2
   exact Fh pins s σ w.H _ us Q I r ⟨_,_,_,_,_,_,b,rfl,q1,q2,g1,fun u hu=>hu,g2,a _ w _ M (Ext.refl w) R (Xw.mpr rfl) g3⟩
  ·obtain⟨as,b,rfl,g1,g2,g3⟩:=g
   obtain⟨rfl,q1,row,q2,q3⟩:=Fg.mp r1
   obtain⟨p,vs,rfl,q4,q5⟩:=X3.mp r2
   cases Z85 q5
   rw[←hK] at g1 g2
   exact Z14 pins s σ w.H _ us Q I r ⟨_,_,_,_,_,_,b,rfl,q1,q2,g1,q4,g2,a _ w _ M (Ext.refl w) R (Xw.mpr rfl) g3⟩
  ·obtain⟨t,b,g1,g2,g3⟩:=g
   cases Zn2.mp r2
   rw[←hK] at g2
   exact Zg1 pins s σ w.H _ us Q I r ⟨_,_,_,b,rfl,Zw5 R r1 g1,g2,a _ w _ M (Ext.refl w) R (Xw.mpr rfl) g3⟩
  ·exact g.elim
 | min2=>
  obtain⟨x,y,rfl,g2⟩:=Rr g;clear g;have g:=g2
  obtain⟨i,j,rfl,rfl,g2⟩:=X4 g;clear g;have g:=g2
  obtain⟨v,u,rfl,r1,r2⟩:=rds2 hx
  cases Zg.mp r1;cases Zg.mp r2
  exact Z38 (hc.resolve_right (by simp[Rl])) pins s σ w.H _ us Q I r ⟨_,_,rfl,a _ w _ M (Ext.refl w) R (Zg.mpr rfl) g⟩
 | max2=>
  obtain⟨x,y,rfl,g2⟩:=Rr g;clear g;have g:=g2
  obtain⟨i,j,rfl,rfl,g2⟩:=X4 g;clear g;have g:=g2
  obtain⟨v,u,rfl,r1,r2⟩:=rds2 hx
  cases Zg.mp r1;cases Zg.mp r2
  exact Z55 (hc.resolve_right (by simp[Rl])) pins s σ w.H _ us Q I r ⟨_,_,rfl,a _ w _ M (Ext.refl w) R (Zg.mpr rfl) g⟩
 | int1=>
  obtain⟨x,rfl,g2⟩:=Se g;clear g;have g:=g2
  obtain⟨i,rfl,g2⟩:=Zd5 g;clear g;have g:=g2
  obtain⟨v,rfl,r1⟩:=rds1 hx
  cases Xw.mp r1
  exact Z22 pins s σ w.H _ us Q I r ⟨_,rfl,a _ w _ M (Ext.refl w) R (Zg.mpr rfl) g⟩
end
noncomputable def mtT:Mt→String
 | .append | .pop0 | .extend | .popi | .insi=>"list"
noncomputable def mtN:Mt→Str
 | .append=>"append" | .pop0=>"pop" | .extend=>"extend" | .popi=>"pop" | .insi=>"insert"
noncomputable def mtI:Mt→String
 | .popi=>"list.pop" | .insi=>"list.insert" | .append=>"list.append" | .pop0=>"list.pop" | .extend=>"list.extend"
theorem Zw6:∀m:Mt,PlainAttrs (mtT m)
 | .append | .pop0 | .extend | .popi | .insi=>PySem.F.plainAttrs_list
theorem Z06:∀m:Mt,Slot (mtT m) (mtN m) (mtI m)
 | .popi=>PySem.F.slot_list_pop | .insi=>PySem.F.slot_list_insert | .append=>PySem.F.slot_list_append | .pop0=>PySem.F.slot_list_pop | .extend=>PySem.F.slot_list_extend
theorem Zx2:∀m:Mt,typeOf (.builtin (mtI m))=pure (.type "method_descriptor")
 | .popi=>PySem.F.type_list_pop | .insi=>PySem.F.type_list_insert | .append=>PySem.F.type_list_append | .pop0=>PySem.F.type_list_pop | .extend=>PySem.F.type_list_extend
def rM(w0:Vw)(m:Mt):V→List V→Hp→VK→Prop:=fun x xs H Q=>∃w M dx ds QD,w.H=H∧w.K=w0.K∧RS w M∧RD w dx x∧RDs w ds xs∧mtD m dx ds M QD∧Aft w QD Q
theorem Zj3{w:Vw}{M:Z2}{m:Mt}{d:D}{x:V}(R:RS w M)(r:RD w d x)(h:mtK m d M):tyV w.K (mtT m) x w.H:=by
 have L:∀{n:Nat},RD w (.ref n) x→(Zf M n).isSome=true→tyV w.K "list" x w.H:=by
  intro n r h
  obtain⟨_,rfl⟩:=Zp.mp r
  obtain⟨xs,e⟩:=Option.isSome_iff_exists.mp h
  obtain⟨_,vs,q1,_⟩:=R.listL e
  exact .inl ⟨rfl,vs,q1⟩
 have K:∀{n:Nat},RD w (.ref n) x→(W8 M n).isSome=true→tyV w.K "dict" x w.H:=by
  intro n r h
  obtain⟨_,rfl⟩:=Zp.mp r
  obtain⟨xs,e⟩:=Option.isSome_iff_exists.mp h
  obtain⟨_,vs,q1,_⟩:=R.dict e
  exact .inr (.inr (.inl ⟨rfl,.inl ⟨vs,q1⟩⟩))
 obtain⟨n,rfl,h⟩:=Ys h
 cases m with
 | _=>exact L r h
theorem Z12{j n:Nat}(h:j<n):seqIndex? (j:Int) n=some j:=by
 unfold seqIndex?
 simp only[show ¬((j:Int)<0) by omega,if_false]
 simp
 omega
theorem RDs.eraseIdx{w:Vw}{xs:List D}{vs:List V}(r:RDs w xs vs)(j:Nat):RDs w (xs.eraseIdx j) (vs.eraseIdx j):=by
 rw[List.eraseIdx_eq_take_drop_succ,List.eraseIdx_eq_take_drop_succ]
 exact(r.take _).append (r.drop _)
theorem RDs.dropLast{w:Vw}{xs:List D}{vs:List V}(r:RDs w xs vs):RDs w xs.dropLast vs.dropLast:=by
 rw[List.dropLast_eq_take,List.dropLast_eq_take,r.length]
 exact r.take _
section
variable{X:Cx}{w0:Vw}
theorem Zd2(hK:X.K=w0.K)(hu:X.A.units+64<cLine)(m:Mt):MtR X (mtI m) (rM w0 m):=by
 intro pins s σ H x xs v us Q I rx r h
 obtain⟨w,M,dx,ds,QD,rfl,e0,R,hx,hs,g,a⟩:=h
 obtain⟨n,rfl,g2⟩:=Ys g;clear g;have g:=g2
 cases m with
 | popi=>
  obtain⟨x,rfl,g2⟩:=Se g;clear g;have g:=g2
  obtain⟨_,rfl⟩:=Zp.mp hx
  obtain⟨y,rfl,ry⟩:=rds1 hs
  obtain⟨ds,d,j,rfl,g1,g2,g3⟩:=g
  cases Zg.mp ry
  obtain⟨hn,vs,q1,q2⟩:=R.list g1
  obtain⟨z,z1,z2⟩:=q2.get g2
  have hj:j<vs.length:=(List.getElem?_eq_some_iff.mp z1).1
  have hz:=(I.hok _ _ q1).1
  have hb:((j:Nat):Int)<2 ^ 62:=by
   have:=sizeLine_eq
   omega
  obtain⟨x1,x2⟩:=Xc R hn q1 (q2.eraseIdx j)
  exact Zc7 pins s σ w.H _ _ v us Q I rx r ⟨_,vs,_,j,z,rfl,rfl,q1,by omega,by omega,Z12 hj,z1,a _ _ _ _ x1 x2 (z2.ext x1) g3⟩
 | insi=>
  obtain⟨x0,x,rfl,g2⟩:=Rr g;clear g;have g:=g2
  obtain⟨_,rfl⟩:=Zp.mp hx
  obtain⟨y0,y,rfl,ry0,ry⟩:=rds2 hs
  obtain⟨ds,j,rfl,g1,gj,gz,g3⟩:=g
  cases Zg.mp ry0
  obtain⟨hn,vs,q1,q2⟩:=R.list g1
  obtain⟨x1,x2⟩:=Xc R hn q1 ((q2.take j).append (RDs.cons ry (q2.drop j)))
  exact Jv pins s σ w.H _ _ v us Q I rx r ⟨_,vs,j,y,rfl,rfl,q1,by rw[q2.length];exact gj,by rw[q2.length];exact gz,a _ _ _ _ x1 x2 (Yi.mpr rfl) g3⟩
 | append=>
  obtain⟨x,rfl,g2⟩:=Se g;clear g;have g:=g2
  obtain⟨_,rfl⟩:=Zp.mp hx
  obtain⟨y,rfl,ry⟩:=rds1 hs
  obtain⟨ds,g1,g2,g3⟩:=g
  obtain⟨hn,vs,q1,q2⟩:=R.list g1
  obtain⟨x1,x2⟩:=Xc R hn q1 (q2.append (RDs.cons ry (RDs.nil w)))
  exact Rs pins s σ w.H _ _ v us Q I rx r ⟨_,vs,y,rfl,rfl,q1,by rw[q2.length];exact g2,a _ _ _ _ x1 x2 (Yi.mpr rfl) g3⟩
 | pop0=>
  obtain⟨rfl,g2⟩:=Z54 g;clear g;have g:=g2
  obtain⟨_,rfl⟩:=Zp.mp hx
  cases rds0 hs
  obtain⟨ds,d,g1,g2,g3⟩:=g
  obtain⟨hn,vs,q1,q2⟩:=R.list g1
  obtain⟨y,z1,z2⟩:=q2.get g2
  obtain⟨x1,x2⟩:=Xc R hn q1 q2.dropLast
  exact Y04 pins s σ w.H _ _ v us Q I rx r ⟨_,vs,y,rfl,rfl,q1,by rw[q2.length];exact z1,a _ _ _ _ x1 x2 (z2.ext x1) g3⟩
 | extend=>
  obtain⟨x,rfl,g2⟩:=Se g;clear g;have g:=g2
  obtain⟨m2,rfl,g2⟩:=Ys g;clear g;have g:=g2
  obtain⟨_,rfl⟩:=Zp.mp hx
  obtain⟨y,rfl,ry⟩:=rds1 hs
  obtain⟨_,rfl⟩:=Zp.mp ry
  obtain⟨ds,es,g1,g2,g4,g3⟩:=g
  obtain⟨hn,vs,q1,q2⟩:=R.list g1
  obtain⟨hn',vs',q1',q2'⟩:=R.list g2
  obtain⟨x1,x2⟩:=Xc R hn q1 (q2.append q2')
  exact Z28 pins s σ w.H _ _ v us Q I rx r ⟨_,_,vs,vs',rfl,rfl,q1,q1',by rw[q2.length,q2'.length];exact g4,a _ _ _ _ x1 x2 (Yi.mpr rfl) g3⟩
end
noncomputable def gF(w0:Vw)(tg:List Nat):TG:=fun v σ H Q=>∃w σD M d QD,StOk w0 w σD M σ H∧RD w d v∧tgD tg d σD QD∧∀σ' σD',REnv w σD' σ'→QD σD'→Q σ' H
noncomputable def gAll:List Nat→TGs
 | []=>gNil
 | i::is=>Zy8 (Z03 i) (gAll is)
theorem Oq{w:Vw}{H:Hp}{Q:L2.St→Hp→Prop}{QD:DEnv→Prop}(k:∀σ' σD',REnv w σD' σ'→QD σD'→Q σ' H):∀(is:List Nat) {ds:List D} {vs:List V} {σ:L2.St} {σD:DEnv},RDs w ds vs→ds.length=is.length→REnv w σD σ→
  QD ((is.zip ds).foldl (fun σ p=>σ.set p.1 (some p.2)) σD)→gAll is vs σ H Q
 | [],ds,vs,σ,σD,r,hl,e,q=>by
  cases List.length_eq_zero_iff.mp hl
  cases rds0 r
  exact⟨rfl,k _ _ e q⟩
 | i::is,ds,vs,σ,σD,r,hl,e,q=>by
  cases ds with
  | nil=>simp at hl
  | cons d ds=>
   unfold RDs at r
   obtain⟨v,vr,rfl,h1,h2⟩:=r
   refine⟨v,vr,rfl,?_⟩
   show gAll is vr (σ.set i (some v)) H Q
   exact Oq k is h2 (by simpa using hl) (e.set i h1) q
section
variable{X:Cx}{w0:Vw}
theorem PG.imp{e:Expr}{t t':TG}(h:PG X e t)(k:∀v σ H Q,t' v σ H Q→t v σ H Q):PG X e t':=fun pins s σ H v u Q I r q=>h pins s σ H v u Q I r (k v σ H Q q)
theorem Zw7{i:Nat}{e:Expr}(h:PG X e (Z03 i)):PG X e (gF w0 [i]):=PG.imp h fun v σ H Q zz65=>by obtain⟨w,σD,M,d,QD,S,r,g,k⟩:=zz65;exact k _ _ (S.env.set i r) g
theorem Z83{is:List Nat}{e:Expr}(h:PG X e (gLst X.K is.length (gAll is))):PG X e (fun v σ H Q=>∃w σD M n ds,∃QD:DEnv→Prop,StOk w0 w σD M σ H∧X.K=w.K∧RD w (.ref n) v∧Zf M n=some ds∧ds.length=is.length∧QD ((is.zip ds).foldl (fun σ p=>σ.set p.1 (some p.2)) σD)∧∀σ' σD',REnv w σD' σ'→QD σD'→Q σ' H):=PG.imp h fun v σ H Q ⟨w,σD,M,n,ds,QD,S,hK,r,e1,g1,g2,k⟩=>by
 obtain⟨_,rfl⟩:=Zp.mp r
 obtain⟨_,vs,q1,q2,_⟩:=S.rs.listL e1
 rw[S.heap,←hK] at q1
 exact⟨_,vs,rfl,.inr q1,by rw[q2.length];exact g1,Oq k is q2 g1 S.env g2⟩
theorem Zr6{is:List Nat}{e:Expr}(hl:2≤is.length)(h:PG X e (gTup X.K is.length (gAll is))):PG X e (gF w0 is):=PG.imp h fun v σ H Q ⟨w,σD,M,d,QD,S,r,g,k⟩=>by
 unfold tgD at g
 split at g
 ·simp at hl
 ·obtain⟨a,vs,rfl,q1,q2⟩:=X3.mp r
  obtain⟨g1,g2⟩:=g
  rw[S.heap] at q1
  exact⟨a,vs,rfl,.of q1,by rw[q2.length];exact g1,Oq k is q2 g1 S.env g2⟩
 ·exact g.elim
end
structure Ck where
 N:List Str
 sc:Scope
 FN:List Str
 GN:List Str
 BN:List Str
 loops:Bool
 calm:Bool
 tries:Bool
 raises:List Nat
 cells:Bool
 own:List Str
noncomputable def Jz(scope:Scope):List Str:=(scope.names.filter fun y=>y.2== .cell).map (·.1)
noncomputable def Ck.vis(k:Ck)(x:Str):Bool:=(k.sc.names.lookup x==some .local || k.sc.names.lookup x==some .cell || k.sc.names.lookup x==some .free)&&!(x==("__debug__":Str))&&!(x==("__classdict__":Str))
noncomputable def Ck.glob(k:Ck)(x:Str):Bool:=k.sc.names.lookup x==some .globalImplicit&&!(x==("__debug__":Str))&&!(x==("__name__":Str))
noncomputable def Ck.loc(k:Ck)(x:Str):Bool:=k.sc.names.lookup x==some .local
noncomputable def Ck.locC(k:Ck)(x:Str):Bool:=k.loc x || ((k.cells || k.own.contains x)&&k.sc.names.lookup x==some .cell)
noncomputable def Z02:Expr→Bool
 | .Call (.Name x _) [] [] _=>x !=("super":Str)
 | _=>true
noncomputable def Jx:Expr→Bool
 | .Slice ..=>false
 | _=>true
noncomputable def Z69:Expr→Bool
 | .Set ..=>false
 | _=>true
noncomputable def Xu:Expr→Bool
 | .Starred ..=>false
 | _=>true
noncomputable def isIn:Cm→Bool
 | .isin | .notin=>true
 | _=>false
noncomputable def Z42(k:Ck):List Nat→List Expr→Bool
 | [],[]=>true
 | i::is,.Name x _::es=>k.N[i]?==some x&&k.locC x&&Z42 k is es
 | _,_=>false
noncomputable def J8(k:Ck)(is:List Nat):Expr→Bool
 | .Name x _=>match is with
  | [i]=>k.N[i]?==some x&&k.locC x
  | _=>false
 | .Tuple es _ _=>k.calm&&decide (2≤is.length)&&Z42 k is es
 | _=>false
noncomputable def chkP:List (Str×Str)→List (Option Expr)→List Expr→Bool
 | [],[],[]=>true
 | p::ps,some (.Constant (.str a) _ _)::ks,.Constant (.str b) _ _::vs=>p.1==a&&p.2==b&&chkP ps ks vs
 | _,_,_=>false
noncomputable def itTg:It→Expr→Bool
 | .enm _,.Tuple ..=>true
 | .enm _,_=>false
 | .zip _,.Tuple ..=>true
 | .zip _,_=>false
 | _,_=>true
theorem Yh{c:Prop}[Decidable c]{F:c→Bool}(h:(if q:c then F q else false)=true):∃q:c,F q=true:=by
 by_cases q:c
 ·rw[dif_pos q] at h;exact⟨q,h⟩
 ·rw[dif_neg q] at h;exact absurd h Bool.false_ne_true
noncomputable def Vx(zz:Expr)(F:Str→Bool):Bool:=if q:zz.ctorIdx=23 then Expr.Name.elim (motive_1:=fun _=>Bool) zz q (fun x _=>F x) else false
theorem Yp{zz:Expr}{F:Str→Bool}(h:Vx zz F=true):∃x p,zz= .Name x p∧F x=true:=by
 obtain⟨q,h⟩:=Yh h
 exact Expr.Name.elim (motive_1:=fun zz=>∀q:zz.ctorIdx=23,Expr.Name.elim (motive_1:=fun _=>Bool) zz q (fun x _=>F x)=true→∃x p,zz= .Name x p∧F x=true) zz q (fun x p _ h=>⟨x,p,rfl,h⟩) q h
noncomputable def Ro(zz:Expr)(F:Const→Bool):Bool:=if q:zz.ctorIdx=19 then Expr.Constant.elim (motive_1:=fun _=>Bool) zz q (fun v _ _=>F v) else false
theorem Wm{zz:Expr}{F:Const→Bool}(h:Ro zz F=true):∃v j p,zz= .Constant v j p∧F v=true:=by
 obtain⟨q,h⟩:=Yh h
 exact Expr.Constant.elim (motive_1:=fun zz=>∀q:zz.ctorIdx=19,Expr.Constant.elim (motive_1:=fun _=>Bool) zz q (fun v _ _=>F v)=true→∃v j p,zz= .Constant v j p∧F v=true) zz q (fun v j p _ h=>⟨v,j,p,rfl,h⟩) q h
noncomputable def Y05(zz:Expr)(F:Expr→Operator→Expr→Bool):Bool:=if q:zz.ctorIdx=2 then Expr.BinOp.elim (motive_1:=fun _=>Bool) zz q (fun l o r _=>F l o r) else false
theorem Z26{zz:Expr}{F:Expr→Operator→Expr→Bool}(h:Y05 zz F=true):∃l o r p,zz= .BinOp l o r p∧F l o r=true:=by
 obtain⟨q,h⟩:=Yh h
 exact Expr.BinOp.elim (motive_1:=fun zz=>∀q:zz.ctorIdx=2,Expr.BinOp.elim (motive_1:=fun _=>Bool) zz q (fun l o r _=>F l o r)=true→∃l o r p,zz= .BinOp l o r p∧F l o r=true) zz q (fun l o r p _ h=>⟨l,o,r,p,rfl,h⟩) q h
noncomputable def onUn(zz:Expr)(F:UnaryOp→Expr→Bool):Bool:=if q:zz.ctorIdx=3 then Expr.UnaryOp.elim (motive_1:=fun _=>Bool) zz q (fun o l _=>F o l) else false
theorem Gh{zz:Expr}{F:UnaryOp→Expr→Bool}(h:onUn zz F=true):∃o l p,zz= .UnaryOp o l p∧F o l=true:=by
 obtain⟨q,h⟩:=Yh h
 exact Expr.UnaryOp.elim (motive_1:=fun zz=>∀q:zz.ctorIdx=3,Expr.UnaryOp.elim (motive_1:=fun _=>Bool) zz q (fun o l _=>F o l)=true→∃o l p,zz= .UnaryOp o l p∧F o l=true) zz q (fun o l p _ h=>⟨o,l,p,rfl,h⟩) q h
noncomputable def Zt9(zz:Expr)(F:Expr→(List CmpOp)→(List Expr)→Bool):Bool:=if q:zz.ctorIdx=15 then Expr.Compare.elim (motive_1:=fun _=>Bool) zz q (fun l os rs _=>F l os rs) else false
theorem Z44{zz:Expr}{F:Expr→(List CmpOp)→(List Expr)→Bool}(h:Zt9 zz F=true):∃l os rs p,zz= .Compare l os rs p∧F l os rs=true:=by
 obtain⟨q,h⟩:=Yh h
 exact Expr.Compare.elim (motive_1:=fun zz=>∀q:zz.ctorIdx=15,Expr.Compare.elim (motive_1:=fun _=>Bool) zz q (fun l os rs _=>F l os rs)=true→∃l os rs p,zz= .Compare l os rs p∧F l os rs=true) zz q (fun l os rs p _ h=>⟨l,os,rs,p,rfl,h⟩) q h
noncomputable def Zi8(zz:Expr)(F:BoolOp→(List Expr)→Bool):Bool:=if q:zz.ctorIdx=0 then Expr.BoolOp.elim (motive_1:=fun _=>Bool) zz q (fun o ls _=>F o ls) else false
theorem Cb{zz:Expr}{F:BoolOp→(List Expr)→Bool}(h:Zi8 zz F=true):∃o ls p,zz= .BoolOp o ls p∧F o ls=true:=by
 obtain⟨q,h⟩:=Yh h
 exact Expr.BoolOp.elim (motive_1:=fun zz=>∀q:zz.ctorIdx=0,Expr.BoolOp.elim (motive_1:=fun _=>Bool) zz q (fun o ls _=>F o ls)=true→∃o ls p,zz= .BoolOp o ls p∧F o ls=true) zz q (fun o ls p _ h=>⟨o,ls,p,rfl,h⟩) q h
noncomputable def Zt7(zz:Expr)(F:(List Expr)→Bool):Bool:=if q:zz.ctorIdx=24 then Expr.List.elim (motive_1:=fun _=>Bool) zz q (fun ls _=>F ls) else false
theorem Z41{zz:Expr}{F:(List Expr)→Bool}(h:Zt7 zz F=true):∃ls p,zz= .List ls p∧F ls=true:=by
 obtain⟨q,h⟩:=Yh h
 exact Expr.List.elim (motive_1:=fun zz=>∀q:zz.ctorIdx=24,Expr.List.elim (motive_1:=fun _=>Bool) zz q (fun ls _=>F ls)=true→∃ls p,zz= .List ls p∧F ls=true) zz q (fun ls p _ h=>⟨ls,p,rfl,h⟩) q h
noncomputable def Zq2(zz:Expr)(F:(List Expr)→Bool):Bool:=if q:zz.ctorIdx=25 then Expr.Tuple.elim (motive_1:=fun _=>Bool) zz q (fun ls _ _=>F ls) else false
theorem Ji{zz:Expr}{F:(List Expr)→Bool}(h:Zq2 zz F=true):∃ls j p,zz= .Tuple ls j p∧F ls=true:=by
 obtain⟨q,h⟩:=Yh h
 exact Expr.Tuple.elim (motive_1:=fun zz=>∀q:zz.ctorIdx=25,Expr.Tuple.elim (motive_1:=fun _=>Bool) zz q (fun ls _ _=>F ls)=true→∃ls j p,zz= .Tuple ls j p∧F ls=true) zz q (fun ls j p _ h=>⟨ls,j,p,rfl,h⟩) q h
noncomputable def Zy1(zz:Expr)(F:(List (Option Expr))→(List Expr)→Bool):Bool:=if q:zz.ctorIdx=6 then Expr.Dict.elim (motive_1:=fun _=>Bool) zz q (fun ks vs _=>F ks vs) else false
theorem Z27{zz:Expr}{F:(List (Option Expr))→(List Expr)→Bool}(h:Zy1 zz F=true):∃ks vs p,zz= .Dict ks vs p∧F ks vs=true:=by
 obtain⟨q,h⟩:=Yh h
 exact Expr.Dict.elim (motive_1:=fun zz=>∀q:zz.ctorIdx=6,Expr.Dict.elim (motive_1:=fun _=>Bool) zz q (fun ks vs _=>F ks vs)=true→∃ks vs p,zz= .Dict ks vs p∧F ks vs=true) zz q (fun ks vs p _ h=>⟨ks,vs,p,rfl,h⟩) q h
noncomputable def Zj8(zz:Expr)(F:Expr→Expr→Bool):Bool:=if q:zz.ctorIdx=21 then Expr.Subscript.elim (motive_1:=fun _=>Bool) zz q (fun l r _=>F l r) else false
theorem J1{zz:Expr}{F:Expr→Expr→Bool}(h:Zj8 zz F=true):∃l r p,zz= .Subscript l r p∧F l r=true:=by
 obtain⟨q,h⟩:=Yh h
 exact Expr.Subscript.elim (motive_1:=fun zz=>∀q:zz.ctorIdx=21,Expr.Subscript.elim (motive_1:=fun _=>Bool) zz q (fun l r _=>F l r)=true→∃l r p,zz= .Subscript l r p∧F l r=true) zz q (fun l r p _ h=>⟨l,r,p,rfl,h⟩) q h
noncomputable def Zw0(zz:Expr)(F:(Option Expr)→(Option Expr)→(Option Expr)→Bool):Bool:=if q:zz.ctorIdx=26 then Expr.Slice.elim (motive_1:=fun _=>Bool) zz q (fun x y z _=>F x y z) else false
theorem Z19{zz:Expr}{F:(Option Expr)→(Option Expr)→(Option Expr)→Bool}(h:Zw0 zz F=true):∃x y z p,zz= .Slice x y z p∧F x y z=true:=by
 obtain⟨q,h⟩:=Yh h
 exact Expr.Slice.elim (motive_1:=fun zz=>∀q:zz.ctorIdx=26,Expr.Slice.elim (motive_1:=fun _=>Bool) zz q (fun x y z _=>F x y z)=true→∃x y z p,zz= .Slice x y z p∧F x y z=true) zz q (fun x y z p _ h=>⟨x,y,z,p,rfl,h⟩) q h
noncomputable def R6(zz:Expr)(F:Expr→(List Expr)→(List Keyword)→Pos→Bool):Bool:=if q:zz.ctorIdx=16 then Expr.Call.elim (motive_1:=fun _=>Bool) zz q (fun fn ls kws p=>F fn ls kws p) else false
theorem Xb{zz:Expr}{F:Expr→(List Expr)→(List Keyword)→Pos→Bool}(h:R6 zz F=true):∃fn ls kws p,zz= .Call fn ls kws p∧F fn ls kws p=true:=by
 obtain⟨q,h⟩:=Yh h
 exact Expr.Call.elim (motive_1:=fun zz=>∀q:zz.ctorIdx=16,Expr.Call.elim (motive_1:=fun _=>Bool) zz q (fun fn ls kws p=>F fn ls kws p)=true→∃fn ls kws p,zz= .Call fn ls kws p∧F fn ls kws p=true) zz q (fun fn ls kws p _ h=>⟨fn,ls,kws,p,rfl,h⟩) q h
noncomputable def Zi4(zz:Expr)(F:Expr→Str→Pos→Bool):Bool:=if q:zz.ctorIdx=20 then Expr.Attribute.elim (motive_1:=fun _=>Bool) zz q (fun l g p=>F l g p) else false
theorem Ew{zz:Expr}{F:Expr→Str→Pos→Bool}(h:Zi4 zz F=true):∃l g p,zz= .Attribute l g p∧F l g p=true:=by
 obtain⟨q,h⟩:=Yh h
 exact Expr.Attribute.elim (motive_1:=fun zz=>∀q:zz.ctorIdx=20,Expr.Attribute.elim (motive_1:=fun _=>Bool) zz q (fun l g p=>F l g p)=true→∃l g p,zz= .Attribute l g p∧F l g p=true) zz q (fun l g p _ h=>⟨l,g,p,rfl,h⟩) q h
noncomputable def onLC(zz:Expr)(F:Expr→(List Comprehension)→Scope→Bool):Bool:=if q:zz.ctorIdx=8 then Expr.ListComp.elim (motive_1:=fun _=>Bool) zz q (fun el gens scope _=>F el gens scope) else false
theorem E4{zz:Expr}{F:Expr→(List Comprehension)→Scope→Bool}(h:onLC zz F=true):∃el gens scope p,zz= .ListComp el gens scope p∧F el gens scope=true:=by
 obtain⟨q,h⟩:=Yh h
 exact Expr.ListComp.elim (motive_1:=fun zz=>∀q:zz.ctorIdx=8,Expr.ListComp.elim (motive_1:=fun _=>Bool) zz q (fun el gens scope _=>F el gens scope)=true→∃el gens scope p,zz= .ListComp el gens scope p∧F el gens scope=true) zz q (fun el gens scope p _ h=>⟨el,gens,scope,p,rfl,h⟩) q h
noncomputable def on0{α:Type}(l:List α)(b:Bool):Bool:=match l with
 | []=>b
 | _::_=>false
noncomputable def on1{α:Type}(l:List α)(F:α→Bool):Bool:=match l with
 | []=>false
 | x::r=>on0 r (F x)
noncomputable def onC{α:Type}(l:List α)(F:α→List α→Bool):Bool:=match l with
 | []=>false
 | x::r=>F x r
theorem Wv{α:Type}{l:List α}{b:Bool}(h:on0 l b=true):l=[]∧b=true:=by
 cases l with
 | nil=>exact⟨rfl,h⟩
 | cons _ _=>exact absurd h Bool.false_ne_true
theorem Wp{α:Type}{l:List α}{F:α→Bool}(h:on1 l F=true):∃x,l=[x]∧F x=true:=by
 cases l with
 | nil=>exact absurd h Bool.false_ne_true
 | cons x r=>obtain⟨rfl,h⟩:=Wv h;exact⟨x,rfl,h⟩
theorem Gd{α:Type}{l:List α}{F:α→List α→Bool}(h:onC l F=true):∃x r,l=x::r∧F x r=true:=by
 cases l with
 | nil=>exact absurd h Bool.false_ne_true
 | cons x r=>exact⟨x,r,rfl,h⟩
noncomputable def noO{α:Type}(o:Option α)(b:Bool):Bool:=match o with
 | none=>b
 | some _=>false
theorem Zr9{α:Type}{o:Option α}{b:Bool}(h:noO o b=true):o=none∧b=true:=by
 cases o with
 | none=>exact⟨rfl,h⟩
 | some _=>exact absurd h Bool.false_ne_true
noncomputable def onZ(i:Int)(b:Bool):Bool:=match i with
 | .ofNat 0=>b
 | _=>false
theorem Z11{i:Int}{b:Bool}(h:onZ i b=true):i=0∧b=true:=by
 rcases i with(_ | n) | n
 ·exact⟨rfl,h⟩
 ·exact absurd h Bool.false_ne_true
 ·exact absurd h Bool.false_ne_true
noncomputable def soO{α:Type}(o:Option α)(F:α→Bool):Bool:=match o with
 | none=>false
 | some x=>F x
theorem Zr0{α:Type}{o:Option α}{F:α→Bool}(h:soO o F=true):∃x,o=some x∧F x=true:=by
 cases o with
 | none=>exact absurd h Bool.false_ne_true
 | some x=>exact⟨x,rfl,h⟩
mutual
noncomputable def chkE(k:Ck):E→Expr→Bool
 | .var i,ex=>Vx ex fun x=>k.N[i]?==some x&&k.vis x
 | .int i,ex=>Ro ex fun v=>match v with
  | .int j=>i==j
  | _=>false
 | .bl b,ex=>Ro ex fun v=>match v with
  | .bool c=>b==c
  | _=>false
 | .non,ex=>Ro ex fun v=>match v with
  | .none=>true
  | _=>false
 | .str x,ex=>Ro ex fun v=>match v with
  | .str y=>x==y
  | _=>false
 | .ty t,ex=>Vx ex fun x=>x==Str.ofString (Xf t)&&k.glob x&&k.BN.contains x
 | .glb g,ex=>Vx ex fun x=>k.GN[g]?==some x&&k.glob x
 | .bin op a b,ex=>Y05 ex fun l o r=>o==opOf op&&chkE k a l&&chkE k b r
 | .neg a,ex=>onUn ex fun o l=>o== .USub&&chkE k a l
 | .not a,ex=>onUn ex fun o l=>o== .Not&&chkE k a l
 | .cmp op a b,ex=>Zt9 ex fun l os rs=>on1 os fun o=>on1 rs fun r=>o==cmOf op&&(!isIn op || Z69 r)&&chkE k a l&&chkE k b r
 | .bop b es,ex=>Zi8 ex fun o ls=>o==(if b then .And else .Or)&&Vu k es ls
 | .lst es,ex=>Zt7 ex fun ls=>Vu k es ls
 | .tup es,ex=>Zq2 ex fun ls=>Vu k es ls
 | .dct a b,ex=>Zy1 ex fun ks vs=>on1 ks fun q=>soO q fun l=>on1 vs fun r=>chkE k a l&&chkE k b r
 | .ix a b,ex=>Zj8 ex fun l r=>Jx r&&chkE k a l&&chkE k b r
 | .sl a lo hi,ex=>Zj8 ex fun l r=>Zw0 r fun x y z=>noO z (chkE k a l&&chkO k lo x&&chkO k hi y)
 | .slW a lo hi,.Subscript l (.Slice x y none _) _=>chkE k a l&&chkO k lo x&&chkO k hi y
 | .setf b a,.Call (.Name x _) [.Call (.Name y _) [l] [] _] [] _=>k.calm&&x==(if b then "sorted" else "len":Str)&&y==("set":Str)&&k.glob x&&k.glob y&&k.BN.contains x&&k.BN.contains y&&Xu l&&chkE k a l
 | .lrev a,.Call (.Name x _) [.Call (.Name y _) [l] [] _] [] _=>k.calm&&x==("list":Str)&&y==("reversed":Str)&&k.glob x&&k.glob y&&k.BN.contains x&&k.BN.contains y&&Xu l&&chkE k a l
 | .anyf a,.Call (.Name x _) [l] [] _=>k.calm&&x==("any":Str)&&k.glob x&&k.BN.contains x&&Xu l&&chkE k a l
 | .dctS ps,.Dict ks vs _=>decide (ps.length≤15)&&decide (0<ps.length)&&chkP ps ks vs
 | .call f es,ex=>R6 ex fun fn ls kws _=>Vx fn fun x=>on0 kws (k.calm&&k.FN[f]?==some x&&k.glob x&&Vu k es ls)
 | .bf b es,ex=>R6 ex fun fn ls kws _=>Vx fn fun x=>on0 kws (onC ls fun l ls=>(k.calm || Rl b)&&x==(bfOf b).1&&k.glob x&&k.BN.contains x&&Vu k es (l::ls))
 | .mt m o es,ex=>R6 ex fun fn ls kws cp=>Zi4 fn fun l nm ap=>on0 kws (nm==mtN m&&Z02 l&&ap.endLine==cp.line&&decide (ls.length<30)&&chkE k o l&&Vu k es ls)
 | .comp N' js tg it cd e,ex=>onLC ex fun el gens scope=>on1 gens fun g=>match g with
  | ⟨t,iter,ifs,as⟩=>onZ as (k.calm&&Ta k.sc k.N N' js scope&&Z69 iter&&Zb1 k it iter&&decide N'.Nodup&&
   J8 {k with N:=N',sc:=Ws scope k.sc,cells:=false,own:=Jz scope,tries:=false,raises:=[]} tg t&&chkC {k with N:=N',sc:=Ws scope k.sc,cells:=false,own:=Jz scope,tries:=false,raises:=[]} cd ifs&&chkE {k with N:=N',sc:=Ws scope k.sc,cells:=false,own:=Jz scope,tries:=false,raises:=[]} e el&&itTg it t)
 | _,_=>false
noncomputable def Vu(k:Ck):Es→List Expr→Bool
 | .nil,[]=>true
 | .cons e r,x::xs=>chkE k e x&&Xu x&&Vu k r xs
 | _,_=>false
noncomputable def chkO(k:Ck):Eo→Option Expr→Bool
 | .no,none=>true
 | .yes e,some x=>chkE k e x
 | _,_=>false
noncomputable def chkC(k:Ck):Eo→List Expr→Bool
 | .no,[]=>true
 | .yes e,[x]=>chkE k e x&&noIf e
 | _,_=>false
noncomputable def Zb1(k:Ck):It→Expr→Bool
 | .seq e,x=>chkE k e x
 | .rng1 a,ex=>R6 ex fun fn ls kws _=>Vx fn fun x=>on0 kws (on1 ls fun l=>x==("range":Str)&&k.glob x&&k.BN.contains x&&Xu l&&chkE k a l)
 | .rng2 a b,ex=>R6 ex fun fn ls kws _=>Vx fn fun x=>on0 kws (onC ls fun l ls=>on1 ls fun r=>x==("range":Str)&&k.glob x&&k.BN.contains x&&Xu l&&Xu r&&chkE k a l&&chkE k b r)
 | .enm e,ex=>R6 ex fun fn ls kws _=>Vx fn fun x=>on0 kws (on1 ls fun l=>x==("enumerate":Str)&&k.glob x&&k.BN.contains x&&Xu l&&chkE k e l)
 | .zip es,ex=>R6 ex fun fn ls kws _=>Vx fn fun x=>on0 kws (onC ls fun l ls=>x==("zip":Str)&&k.glob x&&k.BN.contains x&&Vu k es (l::ls))
noncomputable def noIf:E→Bool
 | .not a=>noIf a
 | .bop _ es=>Ef es
 | _=>true
noncomputable def Ef:Es→Bool
 | .nil=>true
 | .cons e r=>noIf e&&Ef r
end
def Zc6(X:Cx)(x:Str)(sp:DSp):Prop:=
 ∃(kk:Nat) (f:Addr) (fd:FuncData) (ps:List Str) (ds:List Value) (dvs:List V) (dD:List D) (sp0:DSp),FnOk X.prog X.w X.K X.mg X.base (CX1 X.prog X.w) kk f fd ps (spF X.K sp0)∧Room kk X.A∧X.mg x=some (.ref f)∧PySem.W.keepIn X.K (.ref f)=true∧
  Ye X.K fd ps ds∧Vals dvs ds∧(∀w:Vw,w.K=X.K→RDs w dD dvs)∧∀as M Q Z,sp as M Q Z→sp0 (as++dD) M Q Z
structure Good(c:Cfg)(k:Ck)(Z:DX)(w0:Vw)(X:Cx):Prop where
 hK:X.K=c.K
 wK:w0.K=c.K
 N:X.N=k.N
 nd:X.N.Nodup
 sc:X.env.scope=k.sc
 calm:k.calm=true→X.calm=true
 units:X.A.units+64<cLine
 fns:k.calm=true→∀(f:Nat) (x:Str) (sp:DSp),k.FN[f]?=some x→c.Γ[f]?=some sp→Zc6 X x sp
 flen:k.FN.length=c.Γ.length
 glb:∀(g:Nat) (x:Str) (d:D),k.GN[g]?=some x→c.G[g]?=some d→∃v u,X.mg x=some u∧RelV v u∧∀w:Vw,w.K=X.K→RD w d v
 blt:∀x,x∈k.BN→X.mg x=none
 exc:∃E,Fi (CX1 X.prog X.w) X E∧∀cls dd H',xkOf w0 Z cls dd H'→E cls dd H'
 stk:k.tries=true→X.stack=X.env::X.outer∧X.env.frame=some X.env.locals
 po:k.loops=true→PassesOwn (model X.prog X.w) X.A X.env X.xe
 fnc:k.cells=true→∀x,X.fn x=true
 fno:∀x,x∈k.own→X.fn x=true
theorem Z17{w w':Vw}{Z:DX}{cls:Value}{dd:Option Addr}{H':Hp}(x:Ext w w')(h:xkOf w' Z cls dd H'):xkOf w Z cls dd H':=by
 obtain⟨C,dx,r,w2,row,M,e1,e2,e3,e4,h5⟩:=h
 exact⟨C,dx,r,w2,row,M,e1,e2,e3,x.trans e4,h5⟩
def ttD(f:DE):DT:=fun σ M Q=>f σ M fun x M1=>truD M1 x fun b=>Q b M1
section
variable{c:Cfg}{k:Ck}{Z:DX}{w0:Vw}{X:Cx}
theorem Good.gl(G:Good c k Z w0 X){x:Str}(h:k.glob x=true):Gl X x∧(x==("__debug__":Str))=false∧x≠"__name__":=by
 unfold Ck.glob at h
 simp only[Bool.and_eq_true,beq_iff_eq,Bool.not_eq_true',beq_eq_false_iff_ne] at h
 refine⟨?_,by simpa using h.1.2,h.2⟩
 unfold Gl Env.kindOf
 rw[G.sc];exact h.1.1
theorem Good.vis(G:Good c k Z w0 X){x:Str}(h:k.vis x=true):Vis X.env.scope x∧(x==("__debug__":Str))=false∧(x==("__classdict__":Str))=false:=by
 unfold Ck.vis at h
 simp only[Bool.and_eq_true,beq_iff_eq,Bool.not_eq_true',Bool.or_eq_true] at h
 refine⟨?_,h.1.2,h.2⟩
 unfold Vis
 rw[G.sc]
 rcases h.1.1 with(q | q) | q
 ·exact .inl q
 ·exact .inr (.inl q)
 ·exact .inr (.inr q)
theorem Good.locC(G:Good c k Z w0 X){x:Str}(h:k.locC x=true):Loc X.env.scope x∧(X.fn x=true∨X.env.scope.names.lookup x=some .local):=by
 unfold Ck.locC Ck.loc at h
 rw[Bool.or_eq_true,Bool.and_eq_true] at h
 rcases h with h | ⟨h1,h2⟩
 ·have hl:X.env.scope.names.lookup x=some .local:=by rw[G.sc];exact eq_of_beq h
  exact⟨.inl hl,.inr hl⟩
 ·refine⟨.inr (by rw[G.sc];exact eq_of_beq h2),.inl ?_⟩
  rw[Bool.or_eq_true,List.contains_iff_mem] at h1
  rcases h1 with z | z
  ·exact G.fnc z x
  ·exact G.fno x z
theorem Good.eK(G:Good c k Z w0 X):X.K=w0.K:=G.hK.trans G.wK.symm
theorem StOk.K{w w0:Vw}{σD:DEnv}{M:Z2}{σ:L2.St}{H:Hp}(S:StOk w0 w σD M σ H):w.K=w0.K:=S.ext.K
theorem Y5{f:DE}{σ:L2.St}{w:Vw}{σD:DEnv}{M:Z2}{H:Hp}{Q:VK}{QD:DK}(S:StOk w0 w σD M σ H)(h:f σD M QD)(a:Aft w QD Q):tF w0 f σ H Q:=⟨w,σD,M,QD,S,h,a⟩
theorem Jg{l:Expr}{nm:Str}{env:Env}(h:Z02 l=true):attributeBase l nm env (eval l env)=eval l env:=by
 unfold attributeBase
 split
 ·rename_i id np pos
  have:(id !="super" || nm=="__class__" || env.kindOf "super" !=some .globalImplicit || env.kindOf "__class__" !=some .free)=true:=by
   have:(id !=("super":Str))=true:=h
   rw[this];rfl
  simp only[this,if_true]
 ·rfl
theorem Zm{x:Expr}{xs:List Expr}{env:Env}(h:Xu x=true):starEach (x::xs) env=(false,eval x env)::starEach xs env:=by
 cases x<;>first | rfl | cases h
theorem Wh{k:Ck}{env:Env}:∀(es:Es) (xs:List Expr),Vu k es xs=true→(starEach xs env).all (fun p=> !p.1)=true
 | .nil,[],_=>rfl
 | .nil,_::_,h=>absurd h Bool.false_ne_true
 | .cons e r,[],h=>absurd h Bool.false_ne_true
 | .cons e r,x::xs,h=>by
  simp only[Vu,Bool.and_eq_true] at h
  rw[Zm h.1.2]
  simp only[List.all_cons,Bool.not_false,Bool.true_and]
  exact Wh r xs h.2
theorem Rg{pos:Pos}{l:List (Bool×Sem Value)}(h:l.all (fun p=> !p.1)=true):(backTo pos l).any (·.1)=false:=by
 induction l with
 | nil=>rfl
 | cons p r ih=>
  simp only[List.all_cons,Bool.and_eq_true,Bool.not_eq_true'] at h
  show(p.1 || (backTo pos r).any (·.1))=false
  rw[h.1,ih h.2];rfl
theorem Z96{pos:Pos}{l:List (Bool×Sem Value)}(h:l.all (fun p=> !p.1)=true):(backTo pos l).all (fun x=> !x.1)=true:=by
 induction l with
 | nil=>rfl
 | cons p r ih=>
  simp only[List.all_cons,Bool.and_eq_true] at h
  show((!p.1)&&(backTo pos r).all (fun x=> !x.1))=true
  rw[h.1,ih h.2];rfl
theorem Y25{f:DE}{ex:Expr}(G:Good c k Z w0 X)(h:PE X ex (tF w0 f))(he:∀whole,isTrue ex X.env whole=(do let v ←whole;standAt ex.pos;holding [v] (truthy v))):PT X ex (tFT w0 (ttD f)):=by
 refine PT.imp (Za5 h he) fun σ H Q zz68=>?_
 obtain⟨w,σD,M,QD,S,g,a⟩:=zz68
 refine Y5 S g fun v w' d M' x r rd q=>?_
 obtain⟨b,t1,t2⟩:=To (K:=X.K) (by rw[x.K,S.K,G.eK]) r rd q
 exact⟨b,t1,a b w' M' x r t2⟩
theorem Zs5{f:DE}{ex:Expr}(h:PT X ex (Zt8 (tF w0 f)))(hb:∀σD M QD,f σD M QD→f σD M fun d M'=>(∃b,d= .bl b)∧QD d M'):PT X ex (tFT w0 (ttD f)):=by
 refine PT.imp h fun σ H Q zz69=>?_
 obtain⟨w,σD,M,QD,S,g,a⟩:=zz69
 refine Y5 S (hb _ _ _ g) fun v w' d M' x r rd q=>?_
 obtain⟨⟨b,rfl⟩,q⟩:=q
 cases Xw.mp rd
 exact⟨b,rfl,a b w' M' x r q⟩
theorem Z80{fa fb:DE}{g:D→D→Z2→DK→Prop}{σ:L2.St}{H:Hp}{Q:VK}(h:tF w0 (fun σD M QD=>fa σD M fun x M1=>fb σD M1 fun y M2=>g x y M2 QD) σ H Q):tOp (rF w0 g) (tF w0 fa) (tF w0 fb) σ H Q:=by
 obtain⟨w,σD,M,QD,S,g0,a⟩:=h
 refine Y5 S g0 fun x w1 dx M1 x1 r1 rx q1=>?_
 refine Y5 (S.next x1 r1) q1 fun y w2 dy M2 x2 r2 ry q2=>?_
 exact⟨w2,M2,dx,dy,QD,rfl,(S.ext.trans x1).trans x2,r2,rx.ext x2,ry,q2,a.ext (x1.trans x2)⟩
theorem Nm{fa fb:DE}{g:Z2→D→D→(Bool→Prop)→Prop}{σ:L2.St}{H:Hp}{Q:VK}(h:tF w0 (fun σD M QD=>fa σD M fun x M1=>fb σD M1 fun y M2=>g M2 x y fun b=>QD (.bl b) M2) σ H Q):tOp (rB w0 g) (tF w0 fa) (tF w0 fb) σ H Q:=by
 obtain⟨w,σD,M,QD,S,g0,a⟩:=h
 refine Y5 S g0 fun x w1 dx M1 x1 r1 rx q1=>?_
 refine Y5 (S.next x1 r1) q1 fun y w2 dy M2 x2 r2 ry q2=>?_
 exact⟨w2,M2,dx,dy,_,rfl,((S.ext.trans x1).trans x2).K,r2,rx.ext x2,ry,q2,fun b hb=>a _ w2 _ M2 (x1.trans x2) r2 (Xw.mpr rfl) hb⟩
theorem Zl1{a:Expr}{ta:TE}{pos:Pos}(ha:PE X a ta):PE X (.UnaryOp .Not a pos) (fun σ H Q=>ta σ H fun x H1=>∃b,TruV X.K x H1 b∧Q (.bl (!b)) H1):=by
 intro pins s σ H Q I h
 refine UnaryOp_ (thn (ha pins s σ H _ I h) fun v s1 zz70=>?_)
 obtain⟨x,H1,I1,r1,q1⟩:=zz70
 refine not_of (thn (Gr pins s1 σ H1 x v (fun b H2=>Q (.bl (!b)) H2) I1 r1 q1) fun b s2 zz71=>by obtain⟨H2,I2,q2⟩:=zz71;exact⟨.bl (!b),H2,I2,rfl,q2⟩)
theorem Zk1(t:Ty):bootBuiltins (Str.ofString (Xf t))=some (.type (Xf t)):=by
 cases t
 ·exact boot_int
 ·exact boot_str
 ·exact boot_bool
 ·exact boot_list
 ·exact boot_tuple
 ·exact boot_dict
 ·show bootBuiltins "ValueError"=some (.type "ValueError")
  decide+kernel
theorem Qa:bootBuiltins "sorted"=some (.builtin "sorted"):=by decide+kernel
theorem Zc3:bootBuiltins "set"=some (.type "set"):=by decide+kernel
theorem Of:bootBuiltins "reversed"=some (.type "reversed"):=by decide+kernel
theorem Za9:bootBuiltins "any"=some (.builtin "any"):=by decide+kernel
theorem Zm5(b:Bf):bootBuiltins (bfOf b).1=some (bfOf b).2:=by
 cases b<;>first | exact PySem.boot_len | exact boot_isinstance | exact PyProof.Rows.boot_min | exact PyProof.Rows.boot_max | exact boot_list | exact boot_tuple | exact boot_dict | exact boot_str | exact Qa | exact boot_int
end
def JOk(w1:Vw)(J:L2.It)(own:Own)(xs:List D):Prop:=∀w M,Ext w1 w→RS w M→Qg own xs M→∀i:Nat,
 (∀d,xs[i]?=some d→J.go i w.H∧∀x H',J.yld i w.H x H'→∃w',w'.H=H'∧Ext w w'∧RS w' M∧RD w' d x)∧(xs.length≤i→J.stop i w.H)
def iF(w0:Vw)(f:DEnv→Z2→(Own→List D→Z2→Prop)→Prop):TI:=fun σ H R=>∃w σD M QD,StOk w0 w σD M σ H∧f σD M QD∧
 ∀J w' own xs M',Ext w w'→RS w' M'→JOk w' J own xs→QD own xs M'→R J w'.H
section
variable{c:Cfg}{k:Ck}{Z:DX}{w0:Vw}{X:Cx}
theorem PI.imp{tg it:Expr}{t t':TI}(h:PI X tg it t)(q:∀σ H R,t' σ H R→t σ H R):PI X tg it t':=fun pins s σ H R I z=>h pins s σ H R I (q σ H R z)
theorem Zt0{tg l:Expr}{tl:TE}(hl:PE X l tl):PI X tg l (fun σ H R=>tl σ H fun x H1=>(∃a,x= .ref a∧(∃xs,SqL X.K H1 a xs)∧R (Itl X.K a) H1)∨∃a,x= .ref a∧(∃xs,SqT X.K H1 a xs)∧R (Itt X.K a) H1):=by
 intro pins s σ H R I h
 refine thn (hl pins s σ H _ I h) fun v s1 zz72=>?_
 obtain⟨x,H1,I1,r1,q1⟩:=zz72
 have fp:∀b∈[s1.heap.objs.size],FpOk X pins H1 b:=fun b hb=>by
  have e:b=s1.heap.objs.size:=by simpa using hb
  subst e
  exact I1.fpOk (Nat.le_refl _) (I1.hok.fresh (Nat.le_refl _))
 rcases q1 with⟨a,e,⟨xs,hq⟩,q⟩ | ⟨a,e,⟨xs,hq⟩,q⟩
 ·subst e
  cases r1
  obtain⟨its,rv,p,hz⟩:=I1.list hq
  refine wpAny_pyIter_list p.isList ?_
  exact⟨s1.heap.objs.size,[s1.heap.objs.size],_,_,H1,rfl,I1.kept (t':=s1.toks) fun b o e=>Heap.get?_push_of_some _ e,B6 a _,⟨_,Heap.get?_push_size _ rfl,rfl,rfl⟩,fp,q⟩
 ·subst e
  cases r1
  obtain⟨its,rv,p,hz⟩:=I1.tuple hq
  refine wpAny_pyIter_tuple (show s1.heap.IsTuple a its.toArray from p) ?_
  exact⟨s1.heap.objs.size,[s1.heap.objs.size],_,_,H1,rfl,I1.kept (t':=s1.toks) fun b o e=>Heap.get?_push_of_some _ e,Eg a _,⟨_,Heap.get?_push_size _ rfl,rfl,rfl⟩,fp,q⟩
theorem Ze8{w1:Vw}{n:Nat}{xs:List D}(hK:X.K=w1.K)(hn:n<w1.n):JOk w1 (Itl X.K (w1.μ n)) (.lst n) xs:=by
 intro w M x R st i
 obtain⟨_,vs,q1,q2,_⟩:=R.listL st
 rw[x.μ n hn,x.K,←hK] at q1
 refine⟨fun d e=>?_,fun hl=>⟨vs,q1,by rw[q2.length];exact hl⟩⟩
 obtain⟨v,z1,z2⟩:=q2.get e
 refine⟨⟨vs,v,q1,z1⟩,fun y H' ⟨e1,e2⟩=>⟨w,e1.symm,Ext.refl w,R,?_⟩⟩
 have:=e2 vs q1
 rw[z1] at this
 cases this
 exact z2
theorem Z93{w1:Vw}{n:Nat}{xs:List D}(hK:X.K=w1.K)(hn:n<w1.n):JOk w1 (Ite X.K (w1.μ n)) (.enm n) xs:=by
 intro w M x R st i
 obtain⟨ys,st,rfl⟩:=st
 obtain⟨_,vs,q1,q2,_⟩:=R.listL st
 rw[x.μ n hn,x.K,←hK] at q1
 refine⟨fun d e=>?_,fun hl=>⟨vs,q1,by rw[q2.length];unfold Zf5 at hl;rw[List.length_mapIdx] at hl;exact hl⟩⟩
 unfold Zf5 at e
 rw[List.getElem?_mapIdx,Option.map_eq_some_iff] at e
 obtain⟨d,e,rfl⟩:=e
 obtain⟨v,z1,z2⟩:=q2.get e
 refine⟨⟨vs,v,q1,z1⟩,fun y H' zz74=>?_⟩
 obtain⟨p,u,hp,e1,e2,e3⟩:=zz74
 have:=e3 vs q1
 rw[z1] at this
 cases this
 subst e1 e2
 obtain⟨a1,a2,a3⟩:=T0 R hp (RDs.cons (Zg.mpr (rfl:V.int (i:Int)=_)) (RDs.cons z2 (RDs.nil w)))
 exact⟨_,rfl,a1,a2,a3⟩
theorem Z78{w:Vw}{ys zs:List D}{us vs:List V}(h1:RDs w ys us)(h2:RDs w zs vs){i:Nat}{d:D}(e:(zipT ys zs)[i]?=some d):∃x y u v,d= .tup [x,y]∧us[i]?=some u∧vs[i]?=some v∧RD w x u∧RD w y v:=by
 unfold zipT at e
 rw[List.getElem?_map,Option.map_eq_some_iff] at e
 obtain⟨p,e,rfl⟩:=e
 rw[List.getElem?_zip_eq_some] at e
 obtain⟨u,a1,a2⟩:=h1.get e.1
 obtain⟨v,b1,b2⟩:=h2.get e.2
 exact⟨_,_,u,v,rfl,a1,b1,a2,b2⟩
theorem Zl8{w1:Vw}{n m:Nat}{xs:List D}(hK:X.K=w1.K)(hn:n<w1.n)(hm:m<w1.n):JOk w1 (Itz X.K (w1.μ n) (w1.μ m)) (.two n m) xs:=by
 intro w M x R st i
 obtain⟨ys,zs,st,st2,rfl⟩:=st
 obtain⟨_,us,q1,q2,_⟩:=R.listL st
 obtain⟨_,vs,p1,p2,_⟩:=R.listL st2
 rw[x.μ n hn,x.K,←hK] at q1
 rw[x.μ m hm,x.K,←hK] at p1
 refine⟨fun d e=>?_,fun hl=>⟨us,vs,q1,p1,?_⟩⟩
 ·obtain⟨dx,dy,u,v,rfl,a1,a2,a3,a4⟩:=Z78 q2 p2 e
  refine⟨⟨us,vs,u,v,q1,p1,a1,a2⟩,fun y H' zz75=>?_⟩
  obtain⟨p,u',v',hp,e1,e2,e3,e4⟩:=zz75
  have h3:=e3 us q1
  have h4:=e4 vs p1
  rw[a1] at h3
  rw[a2] at h4
  cases h3
  cases h4
  subst e1 e2
  obtain⟨b1,b2,b3⟩:=T0 R hp (RDs.cons a3 (RDs.cons a4 (RDs.nil w)))
  exact⟨_,rfl,b1,b2,b3⟩
 ·have l1:=q2.length
  have l2:=p2.length
  unfold zipT at hl
  rw[List.length_map,List.length_zip] at hl
  omega
theorem Ze0{M:Z2}{a b:D}{Q:Own→List D→Prop}(h:zip2 M a b Q):(∃n m ys zs,a= .ref n∧b= .ref m∧Zf M n=some ys∧Zf M m=some zs∧Q (.two n m) (zipT ys zs))∨(∃ys zs,a= .tup ys∧b= .tup zs∧Q .no (zipT ys zs)):=by
 cases a with
 | ref n=>
  obtain⟨m,rfl,ys,zs,h1,h2,h3⟩:=Ys h
  exact .inl ⟨n,m,ys,zs,rfl,rfl,h1,h2,h3⟩
 | tup ys=>
  obtain⟨zs,rfl,h1⟩:=Rm h
  exact .inr ⟨ys,zs,rfl,rfl,h1⟩
 | _=>exact False.elim h
theorem Za8{w1:Vw}{a b:Addr}{ys zs:List D}{us vs:List V}(ha:w1.H a=some (.tup us))(hb:w1.H b=some (.tup vs))(hr:RDs w1 ys us)(hs:RDs w1 zs vs):JOk w1 (Itzt X.K a b us vs) .no (zipT ys zs):=by
 intro w M x R st i
 have q1:SqT X.K w.H a us:= .of (x.imm _ _ ha rfl)
 have p1:SqT X.K w.H b vs:= .of (x.imm _ _ hb rfl)
 have q2:=hr.ext x
 have p2:=hs.ext x
 refine⟨fun d e=>?_,fun hl=>⟨q1,p1,?_⟩⟩
 ·obtain⟨dx,dy,u,v,rfl,a1,a2,a3,a4⟩:=Z78 q2 p2 e
  refine⟨⟨u,v,q1,p1,a1,a2⟩,fun y H' zz76=>?_⟩
  obtain⟨p,u',v',hp,e1,e2,e3,e4⟩:=zz76
  rw[a1] at e3
  rw[a2] at e4
  cases e3
  cases e4
  subst e1 e2
  obtain⟨b1,b2,b3⟩:=T0 R hp (RDs.cons a3 (RDs.cons a4 (RDs.nil w)))
  exact⟨_,rfl,b1,b2,b3⟩
 ·have l1:=q2.length
  have l2:=p2.length
  unfold zipT at hl
  rw[List.length_map,List.length_zip] at hl
  omega
theorem Z24{w1:Vw}{a:Addr}{vs:List V}{xs:List D}(hK:X.K=w1.K)(h:SqT w1.K w1.H a vs)(r:RDs w1 xs vs):JOk w1 (Itt X.K a) .no xs:=by
 intro w M x R st i
 have q1:=x.sqT h
 rw[x.K,←hK] at q1
 have q2:=r.ext x
 refine⟨fun d e=>?_,fun hl=>⟨vs,q1,by rw[q2.length];exact hl⟩⟩
 obtain⟨v,z1,z2⟩:=q2.get e
 refine⟨⟨vs,v,q1,z1⟩,fun y H' ⟨e1,e2⟩=>⟨w,e1.symm,Ext.refl w,R,?_⟩⟩
 have:=e2 vs q1
 rw[z1] at this
 cases this
 exact z2
theorem Bp{w1:Vw}{lo:Int}{n:Nat}:JOk w1 (Itr lo n) .no (Qj lo n):=by
 intro w M x R st i
 unfold Qj
 refine⟨fun d e=>?_,fun hl=>?_⟩
 ·rw[List.getElem?_map,Option.map_eq_some_iff] at e
  obtain⟨j,h1,rfl⟩:=e
  obtain⟨h2,h3⟩:=List.getElem?_eq_some_iff.mp h1
  have hj:j=i:=by simpa using h3.symm
  subst hj
  have h4:j<n:=by simpa using h2
  exact⟨h4,fun y H' zz78=>by obtain⟨e1,e2⟩:=zz78;exact⟨w,e1.symm,Ext.refl w,R,by rw[e2];exact Zg.mpr rfl⟩⟩
 ·have:n≤i:=by simpa using hl
  exact this
theorem Z72{X:Cx}{N':List Str}{scope:Scope}{cl:List (Str×Addr)}{C:Addr}{fp:List Addr}{pins:List (Addr×Obj)}{s:Shared}{H:Hp}:(cxC X N' scope cl C fp pins s H).env.scope=Ws scope X.env.scope:=rfl
theorem Good.block(G:Good c k Z w0 X)(hc:k.calm=true){N':List Str}{scope:Scope}(hn:N'.Nodup)(cl:List (Str×Addr))(C:Addr)(fp:List Addr)(pins:List (Addr×Obj))(s:Shared)(H:Hp):
  Good c {k with N:=N',sc:=Ws scope k.sc,cells:=false,own:=Jz scope,tries:=false,raises:=[]} noX w0 (cxC X N' scope cl C fp pins s H) where
 hK:=G.hK
 wK:=G.wK
 N:=rfl
 nd:=hn
 sc:=by rw[Z72,G.sc]
 calm:=fun _=>G.calm hc
 units:=G.units
 fns:=fun _ f x sp h1 h2=>by
  obtain⟨kk,f,fd,ps,ds,dvs,dD,sp0,h⟩:=G.fns hc f x sp h1 h2
  exact⟨kk,f,fd,ps,ds,dvs,dD,sp0,h⟩
 flen:=G.flen
 glb:=G.glb
 blt:=G.blt
 exc:=⟨E0,fun _ _ _ _ _ _ _ h=>by
  obtain⟨_,_,_,_,_,_,_,_,_,_,_,_,_,_,_,h⟩:=h
  exact h.elim,fun cls dd H' h=>by
  obtain⟨_,_,_,_,_,_,_,_,_,_,_,_,_,h⟩:=h
  exact h.elim⟩
 stk:=fun h=>by cases h
 po:=fun _=>PassesOwn.never
 fnc:=fun h=>by cases h
 fno:=fun x hx=>by
  show(scope.names.any fun y=>y.1==x&&y.2==NameKind.cell)=true
  have hx:x∈(scope.names.filter fun y=>y.2==NameKind.cell).map (·.1):=hx
  obtain⟨y,hy,rfl⟩:=List.mem_map.mp hx
  obtain⟨h1,h2⟩:=List.mem_filter.mp hy
  rw[List.any_eq_true]
  exact⟨y,h1,by rw[beq_self_eq_true,Bool.true_and];exact h2⟩
theorem Good.tgs(G:Good c k Z w0 X):∀(is:List Nat) (es:List Expr),Z42 k is es=true→PGs X es (gAll is)∧(assignEach es X.env).length=is.length∧(assignEach es X.env).findIdx? (·.1)=none:=by
 have one:∀(i:Nat) (x:Str) (pos:Pos),k.N[i]?=some x→k.locC x=true→PG X (.Name x pos) (Z03 i):=fun i x pos h1 h2=>by
  obtain⟨l1,l2⟩:=G.locC h2
  exact Z50 G.nd (by rw[G.N];exact h1) l1 l2
 intro is
 induction is with
 | nil=>
  intro es h
  cases es with
  | nil=>exact⟨Zr3,rfl,rfl⟩
  | cons e es=>exact absurd h Bool.false_ne_true
 | cons i is ih=>
  intro es h
  cases es with
  | nil=>exact absurd h Bool.false_ne_true
  | cons e es=>
   cases e with
   | Name x pos=>
    change (_&&_)=true at h
    simp only[Bool.and_eq_true,beq_iff_eq] at h
    obtain⟨h1,h2,h3⟩:=ih es h.2
    refine⟨Zf9 (one i x pos h.1.1 h.1.2) h1 rfl,?_,?_⟩
    ·show(assignEach es X.env).length+1=is.length+1
     rw[h2]
    ·show((false,_)::assignEach es X.env).findIdx? (·.1)=none
     rw[List.findIdx?_cons,h3]
     rfl
   | _=>exact absurd h Bool.false_ne_true
theorem Good.tgt(G:Good c k Z w0 X):∀(is:List Nat) (ex:Expr),J8 k is ex=true→PG X ex (gF w0 is):=by
 have one:∀(i:Nat) (x:Str) (pos:Pos),k.N[i]?=some x→k.locC x=true→PG X (.Name x pos) (Z03 i):=fun i x pos h1 h2=>by
  obtain⟨l1,l2⟩:=G.locC h2
  exact Z50 G.nd (by rw[G.N];exact h1) l1 l2
 have many:=G.tgs
 intro is ex h
 cases ex with
 | Name x pos=>
  match is,h with
  | [i],h=>
   change (_&&_)=true at h
   simp only[Bool.and_eq_true,beq_iff_eq] at h
   exact Zw7 (one _ x pos h.1 h.2)
  | [],h=>exact absurd h Bool.false_ne_true
  | _::_::_,h=>exact absurd h Bool.false_ne_true
 | Tuple es kk pos=>
  change (_&&_)=true at h
  simp only[Bool.and_eq_true,decide_eq_true_eq] at h
  obtain⟨h1,h2,h3⟩:=many is es h.2
  exact Zr6 h.1.2 (Zi6 (G.calm h.1.1) h1 h2 h3)
 | _=>exact absurd h Bool.false_ne_true
theorem Zm2{w:Vw}{js:List (Option Nat)}{σD:DEnv}{σ:L2.St}(h:REnv w σD σ):REnv w (capD js σD) (Si js σ):=by
 refine⟨by unfold capD Si;simp,fun i d e=>?_⟩
 unfold capD at e
 unfold Si
 rw[List.getElem?_map] at e ⊢
 cases hj:js[i]? with
 | none=>rw[hj] at e;cases e
 | some o=>
  rw[hj] at e
  simp only[Option.map_some,Option.some.injEq] at e ⊢
  cases o with
  | none=>cases e
  | some j=>
   simp only[Option.bind_some] at e ⊢
   cases hz:σD[j]? with
   | none=>rw[hz] at e;cases e
   | some z=>
    rw[hz] at e
    have e':z=some d:=e
    subst e'
    obtain⟨v,q1,q2⟩:=h.2 j d hz
    exact⟨v,by rw[q1];rfl,q2⟩
theorem Zd3{w1:Vw}{J:L2.It}{own:Own}{xs:List D}{tg:List Nat}{cd:DT}{el:DE}{M1:Z2}{H1:Hp}{σD:DEnv}{σ:L2.St}{QD:Z2→Prop}{Q:VK}(e0:Ext w0 w1)(hH:w1.H=H1)(R1:RS w1 M1)(env:REnv w1 σD σ)(jk:JOk w1 J own xs)
  (h:N0 own xs tg cd el M1.length xs σD (M1++[.lst []]) QD) (a:Aft w1 (fun d M=>d= .ref M1.length∧QD M) Q):∀p,H1 p=none→∃W:Nat→Nat→L2.St→Hp→Prop,(∃m,W 0 m σ (upd H1 p (.lst [])))∧
   ∀i m σc Hc,W i m σc Hc→(J.stop i Hc∧Q (.ref p) Hc)∨(J.go i Hc∧∀x H',J.yld i Hc x H'→gF w0 tg x σc H' fun σ2 H2=>tFT w0 cd σ2 H2 fun b H3=>if b=true then tF w0 el σ2 H3 fun y H4=>∃acc,H4 p=some (.lst acc)∧acc.length<sizeLine∧
    ∃m',m'<m∧W (i+1) m' σ2 (upd H4 p (.lst (acc++[y]))) else ∃m',m'<m∧W (i+1) m' σ2 H3):=by
 intro p hp
 subst hH
 obtain⟨x1,R2,rz⟩:=Wn (xs:=[]) R1 hp (RDs.nil w1)
 have hz:M1.length< (w1.push p (.lst [])).n∧p=(w1.push p (.lst [])).μ M1.length:=by
  obtain⟨z1,z2⟩:=Zp.mp rz
  exact⟨z1,by injection z2⟩
 refine⟨fun i m σc Hc=>∃w σE M,StOk w0 w σE M σc Hc∧Ext (w1.push p (.lst [])) w∧i≤xs.length∧m=xs.length - i∧N0 own xs tg cd el M1.length (xs.drop i) σE M QD,⟨xs.length,w1.push p (.lst []),σD,_,⟨rfl,e0.trans x1,R2,env.ext x1⟩,Ext.refl _,Nat.zero_le _,rfl,h⟩,?_⟩
 rintro i m σc Hc ⟨w,σE,M,S,x2,hi,rfl,hc⟩
 have x12:Ext w1 w:=x1.trans x2
 have hp':w.μ M1.length=p:=(x2.μ _ hz.1).trans hz.2.symm
 have hlt:M1.length<w.n:=Nat.lt_of_lt_of_le hz.1 x2.n
 have stp:∀st:Qg own xs M,_:=fun st=>jk w M x12 S.rs st i
 rw[S.heap] at stp
 by_cases hil:i<xs.length
 ·rw[List.drop_eq_getElem_cons hil] at hc
  obtain⟨st,hc⟩:=hc
  obtain⟨j1,j2⟩:=(stp st).1 xs[i] (List.getElem?_eq_getElem hil)
  refine .inr ⟨j1,fun x H' hy=>?_⟩
  obtain⟨w3,rfl,x3,R3,rd3⟩:=j2 x H' hy
  refine⟨w3,σE,M,xs[i],_,⟨rfl,S.ext.trans x3,R3,S.env.ext x3⟩,rd3,hc,fun σ2 σE2 env2 q2=>?_⟩
  refine⟨w3,σE2,M,_,⟨rfl,S.ext.trans x3,R3,env2⟩,q2,fun b w4 M4 x4 R4 q4=>?_⟩
  cases b with
  | true=>
   rw[if_pos rfl] at q4 ⊢
   refine Y5 ⟨rfl,(S.ext.trans x3).trans x4,R4,env2.ext x4⟩ q4 fun y w5 dy M5 x5 R5 rd5 q5=>?_
   obtain⟨acc,g1,g2,g3⟩:=q5
   obtain⟨hn,vs,z1,z2⟩:=R5.list g1
   have x35:Ext w w5:=(x3.trans x4).trans x5
   have hp5:w5.μ M1.length=p:=(x35.μ _ hlt).trans hp'
   obtain⟨y1,y2⟩:=Xc R5 hn z1 (z2.append (RDs.cons rd5 (RDs.nil w5)))
   rw[hp5] at z1 y1 y2
   refine⟨vs,z1,by rw[z2.length];exact g2,xs.length - (i+1),by omega,w5.alloc p (.lst (vs++[y])),σE2,_,⟨rfl,(S.ext.trans x35).trans y1,y2,(env2.ext (x4.trans x5)).ext y1⟩,(x2.trans x35).trans y1,hil,rfl,g3⟩
  | false=>
   rw[if_neg Bool.false_ne_true] at q4 ⊢
   exact⟨xs.length - (i+1),by omega,w4,σE2,M4,⟨rfl,(S.ext.trans x3).trans x4,R4,env2.ext x4⟩,(x2.trans x3).trans x4,hil,rfl,q4⟩
 ·rw[List.drop_eq_nil_of_le (by omega)] at hc
  obtain⟨st,hq⟩:=hc
  refine .inl ⟨(stp st).2 (by omega),?_⟩
  have:=a (.ref p) w (.ref M1.length) M x12 S.rs (Zp.mpr ⟨hlt,by rw[hp']⟩) ⟨rfl,hq⟩
  rw[S.heap] at this
  exact this
end
def Zj5(c:Cfg)(e:E):Prop:=∀(k:Ck) (Z:DX) (w0:Vw) (X:Cx) (ex:Expr),Good c k Z w0 X→chkE k e ex=true→PE X ex (tF w0 (te c Z e))∧(noIf e=true→PT X ex (tFT w0 (ttD (te c Z e))))
def Zq1(c:Cfg)(es:Es):Prop:=∀(k:Ck) (Z:DX) (w0:Vw) (X:Cx) (ls:List Expr),Good c k Z w0 X→Vu k es ls=true→PA X ls (tFA w0 (tes c Z es))∧
 ∀(b:Bool) (pos:Pos),PE X (.BoolOp (if b then .And else .Or) ls pos) (tF w0 (tbop c Z b es))∧(Ef es=true→PW X (.BoolOp (if b then .And else .Or) ls pos) (tFT w0 (ttD (tbop c Z b es))))
def Zh7(c:Cfg)(eo:Eo):Prop:=(∀(k:Ck) (Z:DX) (w0:Vw) (X:Cx) (lo:Option Expr),Good c k Z w0 X→chkO k eo lo=true→PO X lo (tFO w0 (teo c Z eo)))∧
 ∀(k:Ck) (Z:DX) (w0:Vw) (X:Cx) (ls:List Expr),Good c k Z w0 X→chkC k eo ls=true→(∃x,ls=[x]∧PT X x (tFT w0 (tcd c Z eo)))∨(ls=[]∧eo= .no)
def Zw4(c:Cfg)(it:It):Prop:=∀(k:Ck) (Z:DX) (w0:Vw) (X:Cx) (tg ex:Expr),Good c k Z w0 X→Zb1 k it ex=true→itTg it tg=true→PI X tg ex (iF w0 (tit c Z it))
section
variable{c:Cfg}{k:Ck}{Z:DX}{w0:Vw}{X:Cx}
theorem Qx{d:D}{v:V}{σ:L2.St}{H:Hp}{Q:VK}(hv:∀w:Vw,w.K=w0.K→RD w d v)(h:tF w0 (fun _ M Q=>Q d M) σ H Q):tC v σ H Q:=by
 obtain⟨w,σD,M,QD,S,g,a⟩:=h
 have:=a v w d M (Ext.refl w) S.rs (hv w S.K) g
 rw[S.heap] at this
 exact this
theorem both{f:DE}{ex:Expr}{b:Bool}(G:Good c k Z w0 X)(h:PE X ex (tF w0 f))(he:∀whole,isTrue ex X.env whole=(do let v ←whole;standAt ex.pos;holding [v] (truthy v))):
  PE X ex (tF w0 f)∧(b=true→PT X ex (tFT w0 (ttD f))):=⟨h,fun _=>Y25 G h he⟩
theorem Ez{f:Nat}{es:Es}{x:Str}{np pos:Pos}{ls:List Expr}(G:Good c k Z w0 X)(hc:k.calm=true)(hf:k.FN[f]?=some x)(hg:k.glob x=true)(hs:Vu k es ls=true)(ih:PA X ls (tFA w0 (tes c Z es))):
  PE X (.Call (.Name x np) ls [] pos) (tF w0 (te c Z (.call f es))):=by
 obtain⟨g1,g2,g3⟩:=G.gl hg
 obtain⟨E,ps,xk⟩:=G.exc
 cases hsp:c.Γ[f]? with
 | none=>
  have h1:=(List.getElem?_eq_some_iff.mp hf).1
  have h2:=List.getElem?_eq_none_iff.mp hsp
  rw[G.flen] at h1
  omega
 | some sp=>
  obtain⟨kk,fa,fd,pr,ds,dvs,dD,sp0,F,hr,hm,hk,hb,hd,hD,hsp0⟩:=G.fns hc f x sp hf hsp
  have key:∀σ H Q,tF w0 (te c Z (.call f es)) σ H Q→tFA w0 (tes c Z es) σ H fun vs H1=>spF X.K sp0 (vs++dvs) H1 Q E:=by
   rintro σ H Q ⟨w,σD,M,QD,S,g,a⟩
   refine⟨w,σD,M,_,S,g,fun vs w' ds' M' x' r' rd' q'=>?_⟩
   have q':sp ds' M' QD Z:=by
    have:=q'
    simp only[hsp] at this
    exact this
   have hKw:w'.K=X.K:=by rw[x'.K,S.K,G.eK]
   exact⟨w',ds'++dD,M',QD,Z,hKw,rfl,r',rd'.append (hD w' hKw),hsp0 _ _ _ _ q',a.ext x',fun cls dd H' hx=>xk cls dd H' (Z17 (S.ext.trans x') hx)⟩
  cases ls with
  | nil=>
   refine PE.imp (Za7 F hr g1 hm hk hb hd ps g2) fun σ H Q h=>?_
   have h2:=key σ H Q h
   obtain⟨w,σD,M,QD,S,g,a⟩:=h2
   cases es with
   | nil=>
    have:=a [] w [] M (Ext.refl w) S.rs (RDs.nil w) g
    rw[S.heap] at this
    exact this
   | cons e r=>exact absurd hs Bool.false_ne_true
  | cons l ls=>
   cases es with
   | nil=>exact absurd hs Bool.false_ne_true
   | cons e r=>
    change (_&&_)=true at hs
    simp only[Bool.and_eq_true] at hs
    exact PE.imp (Zo1 F hr g1 hm hk hb hd ps ih g2 (Zm hs.1.2) (Rg (Wh r ls hs.2))) key
theorem te_var{i:Nat}{σ:DEnv}{M:Z2}{Q:DK}:te c Z (.var i) σ M Q=(match σ[i]? with | some (some d)=>Q d M | _=>False):=rfl
theorem te_glb{g:Nat}{σ:DEnv}{M:Z2}{Q:DK}:te c Z (.glb g) σ M Q=(match c.G[g]? with | some d=>Q d M | none=>False):=rfl
theorem Bc{i:Nat}{x:Str}{pos:Pos}(G:Good c k Z w0 X)(h1:k.N[i]?=some x)(h2:k.vis x=true):PE X (.Name x pos) (tF w0 (te c Z (.var i))):=by
 obtain⟨v1,v2,v3⟩:=G.vis h2
 refine PE.imp (Zz5 (i:=i) (by rw[G.N];exact h1) v1 v2 v3) fun σ H Q zz79=>?_
 obtain⟨w,σD,M,QD,S,g,a⟩:=zz79
 rw[te_var] at g
 split at g
 ·rename_i d e
  obtain⟨v,q1,q2⟩:=S.env.2 i d e
  have:=a v w d M (Ext.refl w) S.rs q2 g
  rw[S.heap] at this
  exact⟨v,q1,this⟩
 ·exact g.elim
theorem Z31{g:Nat}{x:Str}{pos:Pos}(G:Good c k Z w0 X)(h1:k.GN[g]?=some x)(h2:k.glob x=true):PE X (.Name x pos) (tF w0 (te c Z (.glb g))):=by
 obtain⟨g1,g2,g3⟩:=G.gl h2
 cases hd:c.G[g]? with
 | none=>
  refine PE.imp (t:=fun _ _ _=>False) (fun _ _ _ _ _ _ h=>h.elim) fun σ H Q zz80=>?_
  obtain⟨w,σD,M,QD,S,q,a⟩:=zz80
  rw[te_glb] at q
  rw[hd] at q
  exact q
 | some d=>
  obtain⟨v,u,q1,q2,q3⟩:=G.glb g x d h1 hd
  refine PE.imp (Zk6 g1 q1 q2 g2) fun σ H Q h=>Qx (d:=d) (fun w hw=>q3 w (by rw[hw,G.eK])) ?_
  obtain⟨w,σD,M,QD,S,q,a⟩:=h
  rw[te_glb] at q
  rw[hd] at q
  exact⟨w,σD,M,QD,S,q,a⟩
theorem Y51{es:Es}{l:Expr}{ls:List Expr}{pos:Pos}(hs:Vu k es (l::ls)=true):starEach (l::ls) X.env=(false,eval l X.env)::starEach ls X.env∧(backTo pos (starEach ls X.env)).any (·.1)=false:=by
 cases es with
 | nil=>exact absurd hs Bool.false_ne_true
 | cons e r=>
  change (_&&_)=true at hs
  simp only[Bool.and_eq_true] at hs
  exact⟨Zm hs.1.2,Rg (Wh r ls hs.2)⟩
theorem Zf8{b:Bf}{es:Es}{x:Str}{np pos:Pos}{l:Expr}{ls:List Expr}(G:Good c k Z w0 X)(hc:k.calm=true∨Rl b=true)(hx:x=(bfOf b).1)(hg:k.glob x=true)(hB:x∈k.BN)(hs:Vu k es (l::ls)=true)(ih:PA X (l::ls) (tFA w0 (tes c Z es))):
  PE X (.Call (.Name x np) (l::ls) [] pos) (tF w0 (te c Z (.bf b es))):=by
 obtain⟨g1,g2,g3⟩:=G.gl hg
 have hm:=G.blt x hB
 have hb:bootBuiltins x=some (bfOf b).2:=by rw[hx];exact Zm5 b
 have snd:=Zc2 (w0:=w0) G.eK b (hc.imp G.calm id)
 have st:starEach (l::ls) X.env=(false,eval l X.env)::starEach ls X.env∧(backTo pos (starEach ls X.env)).any (·.1)=false:=by
  cases es with
  | nil=>exact absurd hs Bool.false_ne_true
  | cons e r=>
   change (_&&_)=true at hs
   simp only[Bool.and_eq_true] at hs
   exact⟨Zm hs.1.2,Rg (Wh r ls hs.2)⟩
 have key:∀σ H Q,tF w0 (te c Z (.bf b es)) σ H Q→tCB (rC w0 (bfD w0.K b)) (tFA w0 (tes c Z es)) σ H Q:=by
  rintro σ H Q ⟨w,σD,M,QD,S,g,a⟩
  refine⟨w,σD,M,_,S,g,fun vs w' ds M' x' r' rd' q'=>?_⟩
  rw[←G.wK] at q'
  exact⟨w',M',ds,QD,rfl,by rw[x'.K,S.K],r',rd',q',a.ext x'⟩
 cases hv:(bfOf b).2 with
 | builtin id=>
  rw[hv] at hb snd
  exact PE.imp (Ri snd g1 hm hb ih g3 g2 st.1 st.2) key
 | type T=>
  rw[hv] at hb snd
  exact PE.imp (Ti snd g1 hm hb ih g3 g2 st.1 st.2) key
 | _=>cases b<;>cases hv
theorem Zd0{m:Mt}{o:E}{es:Es}{l:Expr}{ap cp:Pos}{ls:List Expr}(G:Good c k Z w0 X)(hb:Z02 l=true)(hl:(ap.endLine==cp.line)=true)(hn:ls.length<30)(hs:Vu k es ls=true)(ho:PE X l (tF w0 (te c Z o)))(ih:PA X ls (tFA w0 (tes c Z es))):
  PE X (.Call (.Attribute l (mtN m) ap) ls [] cp) (tF w0 (te c Z (.mt m o es))):=by
 have snd:=Zd2 (w0:=w0) G.eK G.units m
 cases ls with
 | nil=>
  refine PE.imp (Zt2 (Zw6 m) (Z06 m) (Zx2 m) snd ho (Jg hb) hl) fun σ H Q zz81=>?_
  obtain⟨w,σD,M,QD,S,g,a⟩:=zz81
  refine Y5 S g fun x w1 dx M1 x1 r1 rx q1=>?_
  have ty:=Zj3 r1 rx q1.1
  rw[x1.K,S.K,←G.eK] at ty
  refine⟨ty,?_⟩
  cases es with
  | nil=>exact⟨w1,M1,dx,[],QD,rfl,by rw[x1.K,S.K],r1,rx,RDs.nil w1,q1.2,a.ext x1⟩
  | cons e r=>exact absurd hs Bool.false_ne_true
 | cons l' ls=>
  cases es with
  | nil=>exact absurd hs Bool.false_ne_true
  | cons e r=>
   have hs':=hs
   change (_&&_)=true at hs'
   simp only[Bool.and_eq_true] at hs'
   have few:((backTo cp (starEach (l'::ls) X.env)).all (fun x=> !x.1)&&(backToKw cp (keywordEach [] X.env)).all (fun x=>x.1.isSome)
     &&decide ((l'::ls).length+([]:List Keyword).length+(if ([]:List Keyword).isEmpty then 0 else 1)<30))=true:=by
    rw[Z96 (Wh _ _ hs)]
    show(true&&true&&decide ((l'::ls).length+0+0<30))=true
    simpa using hn
   refine PE.imp (Y46 (Zw6 m) (Z06 m) (Zx2 m) snd ho ih (Jg hb) few hl (Zm hs'.1.2) (Rg (Wh r ls hs'.2))) fun σ H Q zz82=>?_
   obtain⟨w,σD,M,QD,S,g,a⟩:=zz82
   refine Y5 S g fun x w1 dx M1 x1 r1 rx q1=>?_
   have ty:=Zj3 r1 rx q1.1
   rw[x1.K,S.K,←G.eK] at ty
   refine⟨ty,w1,σD,M1,_,S.next x1 r1,q1.2,fun vs w2 ds M2 x2 r2 rd2 q2=>?_⟩
   exact⟨w2,M2,dx,ds,QD,rfl,by rw[x2.K,x1.K,S.K],r2,rx.ext x2,rd2,q2,a.ext (x1.trans x2)⟩
theorem Ze4{a:E}{lo hi:Eo}{l:Expr}{x y:Option Expr}{p2 pos:Pos}(G:Good c k Z w0 X)(ha:PE X l (tF w0 (te c Z a)))(h1:PO X x (tFO w0 (teo c Z lo)))(h2:PO X y (tFO w0 (teo c Z hi))):
  PE X (.Subscript l (.Slice x y none p2) pos) (tF w0 (te c Z (.sl a lo hi))):=by
 refine PE.imp (Gi (Zh1 (w0:=w0) G.eK) ha h1 h2) fun σ H Q zz83=>?_
 obtain⟨w,σD,M,QD,S,g,aq⟩:=zz83
 refine Y5 S g fun x w1 dx M1 x1 r1 rx q1=>?_
 refine⟨w1,σD,M1,_,S.next x1 r1,q1,fun l w2 M2 x2 r2 q2=>?_⟩
 refine⟨w2,σD,M2,_,(S.next x1 r1).next x2 r2,q2,fun h w3 M3 x3 r3 q3=>?_⟩
 exact⟨w3,M3,dx,QD,rfl,by rw[x3.K,x2.K,x1.K,S.K],r3,rx.ext (x2.trans x3),q3,aq.ext ((x1.trans x2).trans x3)⟩
theorem Z32{a b:E}{l r:Expr}{pos:Pos}(G:Good c k Z w0 X)(ha:PE X l (tF w0 (te c Z a)))(hb:PE X r (tF w0 (te c Z b))):PE X (.Dict [some l] [r] pos) (tF w0 (te c Z (.dct a b))):=by
 refine PE.imp (Z68 (Ft ha hb Z05) rfl rfl (by simp) (by simp)) fun σ H Q zz84=>?_
 obtain⟨w,σD,M,QD,S,g,aq⟩:=zz84
 intro p hp
 rw[←S.heap] at hp
 obtain⟨y1,y2,y3⟩:=E2 (xs:=[]) (vs:=[]) S.rs hp (by unfold RKV;rfl)
 have hup:upd H p (.dK [])=(w.push p (.dK [])).H:=by rw[←S.heap];rfl
 have eμ:(w.push p (.dK [])).μ M.length=p:=by
  show(if M.length=w.n then p else w.μ M.length)=p
  rw[if_pos S.rs.len.symm]
 have ln:M.length< (w.push p (.dK [])).n:=by show M.length<w.n+1;rw[S.rs.len];omega
 rw[hup]
 refine Y5 (S.next y1 y2) g fun x w1 dx M1 x1 r1 rx q1=>?_
 refine Y5 ((S.next y1 y2).next x1 r1) q1 fun y w2 dy M2 x2 r2 ry q2=>?_
 obtain⟨kk,e1,e2,e3⟩:=q2
 obtain⟨hn,vs,u1,u2⟩:=r2.dict e2
 rw[(x1.trans x2).μ _ ln,eμ] at u1
 have ev:vs=[]:=by have:=u2.length;exact List.length_eq_zero_iff.mp (by simpa using this)
 subst ev
 cases Ou e1 (rx.ext x2)
 refine⟨u1,[(kk,y)],rfl,by simp,?_⟩
 have u1':w2.H (w2.μ M.length)=some (.dK []):=by rw[(x1.trans x2).μ _ ln,eμ];exact u1
 obtain⟨t1,t2⟩:=Ph (vs:=[(kk,y)]) (xs:=[(kk,dy)]) r2 hn u1' (by
  have:=(show RKV w2 [] [] by unfold RKV;rfl).put (k:=kk) ry
  exact this)
 have rr:RD (w2.alloc (w2.μ M.length) (.dK [(kk,y)])) (.ref M.length) (.ref p):=(y3.ext (x1.trans x2)).ext t1
 have:=aq _ _ _ _ (((y1.trans x1).trans x2).trans t1) t2 rr e3
 have hf:(w2.alloc (w2.μ M.length) (.dK [(kk,y)])).H=upd w2.H p (.dK (Tb [] [(kk,y)])):=by
  show upd w2.H (w2.μ M.length) (.dK [(kk,y)])=_
  rw[(x1.trans x2).μ _ ln,eμ]
  rfl
 rw[←hf]
 exact this
theorem sl_W:SlR X (fun x lo hi H Q=>∃a xs,x= .ref a∧SqT X.K H a xs∧((HT.sIx xs.length 0 lo=0∧HT.sIx xs.length xs.length hi=xs.length)→Q x H)∧∀p,H p=none→Q (.ref p) (upd H p (.tup (cutV xs lo hi)))):=by
 intro pins s σ H x v vl vu lo hi sl Q I rx hs pl pu h
 obtain⟨a,xs,rfl,hx,h1,h2⟩:=h
 by_cases hw:HT.sIx xs.length 0 lo=0∧HT.sIx xs.length xs.length hi=xs.length
 ·exact Zm6 pins s σ H _ v vl vu lo hi sl Q I rx hs pl pu ⟨a,xs,rfl,hx,hw,h1 hw⟩
 ·exact Zi1 pins s σ H _ v vl vu lo hi sl Q I rx hs pl pu ⟨a,xs,rfl,hx,hw,h2⟩
theorem B7{a:E}{lo hi:Eo}{l:Expr}{x y:Option Expr}{p2 pos:Pos}(G:Good c k Z w0 X)(ha:PE X l (tF w0 (te c Z a)))(h1:PO X x (tFO w0 (teo c Z lo)))(h2:PO X y (tFO w0 (teo c Z hi))):
  PE X (.Subscript l (.Slice x y none p2) pos) (tF w0 (te c Z (.slW a lo hi))):=by
 refine PE.imp (Gi sl_W ha h1 h2) fun σ H Q zz85=>?_
 obtain⟨w,σD,M,QD,S,g,aq⟩:=zz85
 refine Y5 S g fun x w1 dx M1 x1 r1 rx q1=>?_
 have S1:=S.next x1 r1
 refine⟨w1,σD,M1,_,S1,q1,fun l1 w2 M2 x2 r2 q2=>?_⟩
 have S2:=S1.next x2 r2
 refine⟨w2,σD,M2,_,S2,q2,fun h1 w3 M3 x3 r3 q3=>?_⟩
 obtain⟨xs,rfl,q4⟩:=Rm q3
 have rx3:=(rx.ext x2).ext x3
 obtain⟨p,vs,rfl,e1,e2⟩:=X3.mp rx3
 refine⟨p,vs,rfl,.of e1,fun hw=>?_,fun q hq=>?_⟩
 ·have e:cutD xs l1 h1=xs:=by
   unfold cutD
   rw[←e2.length,hw.1,hw.2,List.drop_zero,Nat.sub_zero,e2.length,List.take_length]
  rw[e] at q4
  exact aq _ _ _ _ ((x1.trans x2).trans x3) r3 rx3 q4
 ·obtain⟨y1,y2,y3⟩:=T0 r3 hq (Ge (lo:=l1) (hi:=h1) e2)
  exact aq _ _ _ _ (((x1.trans x2).trans x3).trans y1) y2 y3 q4
theorem Z08{ms:List Int}(h1:ms.Nodup)(h2:ms.Pairwise (·≤·)):ms.Pairwise (· < ·):=by
 induction ms with
 | nil=>exact .nil
 | cons x r ih=>
  rw[List.nodup_cons] at h1
  rw[List.pairwise_cons] at h2
  refine .cons (fun y hy=>?_) (ih h1.2 h2.2)
  have:=h2.1 y hy
  have:x≠y:=fun z=>h1.1 (z ▸ hy)
  omega
theorem B5{b:Bool}{a:E}{x y:Str}{p1 p2 q1 q2:Pos}{l:Expr}(G:Good c k Z w0 X)(hc:k.calm=true)(hx:x=(if b then "sorted" else "len":Str))(hy:y=("set":Str))(hg:k.glob x=true)(hg':k.glob y=true)(hB:x∈k.BN)(hB':y∈k.BN)(hl:Xu l=true)(ih:PE X l (tF w0 (te c Z a))):
  PE X (.Call (.Name x p1) [.Call (.Name y p2) [l] [] q2] [] q1) (tF w0 (te c Z (.setf b a))):=by
 obtain⟨g1,g2,g3⟩:=G.gl hg
 obtain⟨g1',g2',g3'⟩:=G.gl hg'
 have hset:=Ti (p:=p2) (pos:=q2) (Z18 (X:=X) (G.calm hc)) g1' (G.blt _ hB') (by rw[hy];exact Zc3) (Xr ih Vv (Zm hl)) g3' g2' (Zm hl) rfl
 have key:∀(w1:Vw) (M1:Z2) (n:Nat) (ks:List Key) (R:List V→Hp→VK→Prop) (Q:VK),RS w1 M1→w1.K=X.K→Zf M1 n=some (ks.map kD)→ks.length+1<scanBound→n<w1.n→
   (∀p ks',w1.H p=none→ks'.Nodup→ks'.length≤ks.length→(∀k,k∈ks'↔k∈ks)→R [V.ref p] (w1.alloc p (.ext (Wq X.prog X.w p ks'))).H Q)→∃(a:Addr) (ks:List Key),[V.ref (w1.μ n)]=[V.ref a]∧SqL X.K w1.H a (ks.map kV)∧ks.length+1<scanBound∧∀p ks',w1.H p=none→ks'.Nodup→ks'.length≤ks.length→(∀k,k∈ks'↔k∈ks)→R [V.ref p] (upd w1.H p (.ext (Wq X.prog X.w p ks'))) Q:=by
  intro w1 M1 n ks R Q r1 hK e1 hz hn h
  obtain⟨_,vs,z1,z2,_⟩:=r1.listL e1
  rw[hK] at z1
  rw[Fk z2] at z1
  exact⟨_,ks,rfl,z1,hz,h⟩
 cases b with
 | true=>
  refine PE.imp (Ri (Ng (X:=X) (G.calm hc)) g1 (G.blt _ hB) (by rw[hx];exact Qa) (Xr hset Vv rfl) g3 g2 rfl rfl) fun σ H Q zz86=>?_
  obtain⟨w,σD,M,QD,S,g,aq⟩:=zz86
  refine Y5 S g fun x w1 dx M1 x1 r1 rx q1=>?_
  obtain⟨n,rfl,q1⟩:=Ys q1
  obtain⟨hn,rfl⟩:=Zp.mp rx
  obtain⟨ns,e1,hz,q⟩:=q1
  have hK:w1.K=X.K:=by rw[x1.K,S.K,G.eK]
  refine key w1 M1 n (ns.map Sum.inl) (Zj2 X.prog X.w) Q r1 hK (by rw[e1,List.map_map];rfl) (by rw[List.length_map];show ns.length+1<4096;omega) hn fun p ks' hp nd hlk hm=>?_
  have hin:∃ns':List Int,ks'=ns'.map Sum.inl:=by
   refine⟨ks'.map (fun k=>match k with | .inl i=>i | .inr _=>0),?_⟩
   rw[List.map_map]
   have:∀k∈ks',(Sum.inl ∘ fun k:Key=>match k with | .inl i=>i | .inr _=>(0:Int)) k=k:=by
    intro k hk
    obtain⟨i,_,rfl⟩:=List.mem_map.mp ((hm k).mp hk)
    rfl
   rw[List.map_congr_left this,List.map_id']
  obtain⟨ns',rfl⟩:=hin
  have nd':ns'.Nodup:=List.Pairwise.of_map Sum.inl (fun a b h z=>h (by rw[z])) nd
  have hm':∀i,i∈ns'↔i∈ns:=fun i=>by
   have:=hm (Sum.inl i)
   simpa using this
  have ln:ns'.length<64:=by
   rw[List.length_map,List.length_map] at hlk
   omega
  have ra:=r1.alloc (o:= .ext (Wq X.prog X.w p (ns'.map Sum.inl))) hp
  refine⟨p,ns',rfl,Yg,ln,fun l ms hl pm sm=>?_⟩
  obtain⟨y1,y2,y3⟩:=Wn (w:=w1.alloc p (.ext (Wq X.prog X.w p (ns'.map Sum.inl)))) ra hl (Fo ms)
  exact aq _ _ _ _ ((x1.trans (Vh hp)).trans y1) y2 y3 (q ms (Z08 (pm.nodup_iff.mpr nd') sm) fun i=>(pm.mem_iff.trans (hm' i)))
 | false=>
  refine PE.imp (Ri (Bw (X:=X)) g1 (G.blt _ hB) (by rw[hx];exact PySem.boot_len) (Xr hset Vv rfl) g3 g2 rfl rfl) fun σ H Q zz87=>?_
  obtain⟨w,σD,M,QD,S,g,aq⟩:=zz87
  refine Y5 S g fun x w1 dx M1 x1 r1 rx q1=>?_
  obtain⟨n,rfl,q1⟩:=Ys q1
  obtain⟨hn,rfl⟩:=Zp.mp rx
  obtain⟨ks,e1,hz,q⟩:=q1
  have hK:w1.K=X.K:=by rw[x1.K,S.K,G.eK]
  refine key w1 M1 n ks (Zx4 X.prog X.w) Q r1 hK e1 hz hn fun p ks' hp nd hlk hm=>?_
  have ra:=r1.alloc (o:= .ext (Wq X.prog X.w p ks')) hp
  exact⟨p,ks',rfl,Yg,aq _ _ _ _ (x1.trans (Vh hp)) ra (Zg.mpr rfl) (q ks' nd hm)⟩
theorem Co{a:E}{x y:Str}{p1 p2 q1 q2:Pos}{l:Expr}(G:Good c k Z w0 X)(hc:k.calm=true)(hx:x=("list":Str))(hy:y=("reversed":Str))(hg:k.glob x=true)(hg':k.glob y=true)(hB:x∈k.BN)(hB':y∈k.BN)(hl:Xu l=true)(ih:PE X l (tF w0 (te c Z a))):
  PE X (.Call (.Name x p1) [.Call (.Name y p2) [l] [] q2] [] q1) (tF w0 (te c Z (.lrev a))):=by
 obtain⟨g1,g2,g3⟩:=G.gl hg
 obtain⟨g1',g2',g3'⟩:=G.gl hg'
 have hset:=Ti (p:=p2) (pos:=q2) (Ze9 (X:=X)) g1' (G.blt _ hB') (by rw[hy];exact Of) (Xr ih Vv (Zm hl)) g3' g2' (Zm hl) rfl
 refine PE.imp (Ti (Ed (X:=X) (G.calm hc)) g1 (G.blt _ hB) (by rw[hx];exact boot_list) (Xr hset Vv rfl) g3 g2 rfl rfl) fun σ H Q zz88=>?_
 obtain⟨w,σD,M,QD,S,g,aq⟩:=zz88
 refine Y5 S g fun x w1 dx M1 x1 r1 rx q1=>?_
 obtain⟨n,rfl,q1⟩:=Ys q1
 obtain⟨hn,rfl⟩:=Zp.mp rx
 obtain⟨xs,e1,q⟩:=q1
 have hK:w1.K=X.K:=by rw[x1.K,S.K,G.eK]
 obtain⟨_,vs,z1,z2,_⟩:=r1.listL e1
 rw[hK] at z1
 refine⟨_,vs,rfl,z1,fun p hp hlp=>?_⟩
 refine⟨p,w1.μ n,vs,rfl,Yg,?_,fun t ht=>?_⟩
 ·rcases z1 with(z1 | ⟨o,z1⟩) | z1
  ·exact .inl (.inl (by rw[Zs hlp];exact z1))
  ·exact .inl (.inr ⟨o,by rw[Zs hlp];exact z1⟩)
  ·exact .inr z1
 ·have hd:del (upd w1.H p (.ext (Fq X.s₀.heap.objs.size p (w1.μ n) vs.length))) p=w1.H:=by
   funext b
   unfold del
   split
   ·rename_i e;rw[e];exact hp.symm
   ·rename_i e;exact Zs e
  have ht':w1.H t=none:=by
   by_cases e:t=p
   ·rw[e];exact hp
   ·rw[Zs e] at ht;exact ht
  rw[hd]
  obtain⟨y1,y2,y3⟩:=Wn r1 ht' z2.reverse
  exact aq _ _ _ _ (x1.trans y1) y2 y3 q
theorem Eu{a:E}{x:Str}{p1 q1:Pos}{l:Expr}(G:Good c k Z w0 X)(hc:k.calm=true)(hx:x=("any":Str))(hg:k.glob x=true)(hB:x∈k.BN)(hl:Xu l=true)(ih:PE X l (tF w0 (te c Z a))):
  PE X (.Call (.Name x p1) [l] [] q1) (tF w0 (te c Z (.anyf a))):=by
 obtain⟨g1,g2,g3⟩:=G.gl hg
 refine PE.imp (Ri (Zc4 (X:=X) (G.calm hc)) g1 (G.blt _ hB) (by rw[hx];exact Za9) (Xr ih Vv (Zm hl)) g3 g2 (Zm hl) rfl) fun σ H Q zz89=>?_
 obtain⟨w,σD,M,QD,S,g,aq⟩:=zz89
 refine Y5 S g fun x w1 dx M1 x1 r1 rx q1=>?_
 obtain⟨n,rfl,q1⟩:=Ys q1
 obtain⟨hn,rfl⟩:=Zp.mp rx
 obtain⟨bs,e1,q⟩:=q1
 have hK:w1.K=X.K:=by rw[x1.K,S.K,G.eK]
 obtain⟨_,vs,z1,z2,_⟩:=r1.listL e1
 rw[hK] at z1
 have ev:∀{bs:List Bool} {vs:List V},RDs w1 (bs.map .bl) vs→vs=bs.map V.bl:=by
  intro bs
  induction bs with
  | nil=>intro vs h;exact rds0 h
  | cons b bs ih=>
   intro vs h
   rw[List.map_cons] at h
   unfold RDs at h
   obtain⟨v,r,rfl,h1,h2⟩:=h
   rw[ih h2,Xw.mp h1]
   rfl
 rw[ev z2] at z1
 exact⟨_,bs,rfl,z1,aq _ _ _ _ x1 r1 (Xw.mpr rfl) q⟩
theorem Z62{pos:Pos}:∀{ps:List (Str×Str)} {ks:List (Option Expr)} {vs:List Expr},chkP ps ks vs=true→PPs X pos ks vs (ps.map fun p=>(tC (.str p.1),tC (.str p.2)))∧ks.length=ps.length∧vs.length=ps.length∧ks.all (·.isSome)=true
 | [],ks,vs,h=>by
  match ks,vs,h with
  | [],[],_=>exact⟨Z05,rfl,rfl,rfl⟩
 | p::ps,ks,vs,h=>by
  match ks,vs,h with
  | some (.Constant (.str a) _ _)::ks,.Constant (.str b) _ _::vs,h=>
   change (_&&_)=true at h
   simp only[Bool.and_eq_true,beq_iff_eq] at h
   obtain⟨⟨rfl,rfl⟩,h3⟩:=h
   obtain⟨i1,i2,i3,i4⟩:=Z62 (pos:=pos) h3
   exact⟨Ft Z23 Z23 i1,by rw[List.length_cons,List.length_cons,i2],by rw[List.length_cons,List.length_cons,i3],by rw[List.all_cons,i4];rfl⟩
theorem Qs{σ:L2.St}{H:Hp}:∀{ps:List (Str×Str)} {Q:List (V×V)→Hp→Prop},Q (ps.map fun p=>(V.str p.1,V.str p.2)) H→E6 (ps.map fun p=>(tC (.str p.1),tC (.str p.2))) σ H Q
 | [],Q,h=>h
 | p::ps,Q,h=>Qs (ps:=ps) (Q:=fun qs H3=>Q ((V.str p.1,V.str p.2)::qs) H3) h
theorem Bx{w:Vw}:∀ps:List (Str×Str),RKV w (ps.map fun q=>(.inr q.1,.str q.2)) (ps.map fun q=>(.inr q.1,V.str q.2))
 | []=>by unfold RKV;rfl
 | p::ps=>by rw[List.map_cons];unfold RKV;exact⟨_,_,rfl,Zw.mpr rfl,Bx ps⟩
theorem Ej{ps:List (Str×Str)}{ks:List (Option Expr)}{vs:List Expr}{pos:Pos}(G:Good c k Z w0 X)(h15:ps.length≤15)(h0:0<ps.length)(h:chkP ps ks vs=true):PE X (.Dict ks vs pos) (tF w0 (te c Z (.dctS ps))):=by
 obtain⟨i1,i2,i3,i4⟩:=Z62 (X:=X) (pos:=pos) h
 refine PE.imp (Z68 i1 i4 (i2.trans i3.symm) (fun z=>by rw[z] at i2;simp at i2;omega) (by omega)) fun σ H Q zz90=>?_
 obtain⟨w,σD,M,QD,S,g,aq⟩:=zz90
 intro p hp
 rw[←S.heap] at hp
 refine Qs ⟨Yg,ps.map fun q=>(.inr q.1,V.str q.2),by rw[List.map_map];rfl,by rw[List.length_map];exact h15,?_⟩
 obtain⟨y1,y2,y3⟩:=E2 (xs:=Zn6 (ps.map fun q=>(.inr q.1,.str q.2))) (vs:=Tb [] (ps.map fun q=>(.inr q.1,V.str q.2))) S.rs hp (Fz (Bx ps) (by unfold RKV;rfl))
 have hf:upd (upd H p (.dK [])) p (.dK (Tb [] (ps.map fun q=>(.inr q.1,V.str q.2))))=(w.push p (.dK (Tb [] (ps.map fun q=>(.inr q.1,V.str q.2))))).H:=by
  rw[←S.heap]
  funext b
  show upd (upd w.H p _) p _ b=upd w.H p _ b
  by_cases e:b=p
  ·rw[e,Yg,Yg]
  ·rw[Zs e,Zs e,Zs e]
 rw[hf]
 exact aq _ _ _ _ y1 y2 y3 g
theorem Za1{a b:E}{l r:Expr}{pos:Pos}(G:Good c k Z w0 X)(hn:Jx r=true)(ha:PE X l (tF w0 (te c Z a)))(hb:PE X r (tF w0 (te c Z b))):PE X (.Subscript l r pos) (tF w0 (te c Z (.ix a b))):=by
 have pl:Z34 r:=by
  intro o i
  cases r<;>first | rfl | cases hn
 refine PE.imp (Y44 (Zd7 (w0:=w0) G.eK G.units) ha hb pl) fun σ H Q zz91=>?_
 obtain⟨w,σD,M,QD,S,g,aq⟩:=zz91
 refine Y5 S g fun x w1 dx M1 x1 r1 rx q1=>?_
 refine Y5 (S.next x1 r1) q1 fun y w2 dy M2 x2 r2 ry q2=>?_
 exact⟨w2,M2,dx,dy,_,rfl,by rw[x2.K,x1.K,S.K],r2,rx.ext x2,ry,q2,fun d v hq hr=>aq v w2 d M2 (x1.trans x2) r2 hr hq⟩
theorem Qz{N':List Str}{js:List (Option Nat)}{tg:List Nat}{it:It}{cd:Eo}{e:E}{el t iter:Expr}{ifs:List Expr}{scope:Scope}{pos:Pos}(G:Good c k Z w0 X)(hc:k.calm=true)(ho:Ta k.sc k.N N' js scope=true)(hns:Z69 iter=true)(hn:N'.Nodup)
  (hi:PI X t iter (iF w0 (tit c Z it))) (ht:J8 {k with N:=N',sc:=Ws scope k.sc,cells:=false,own:=Jz scope,tries:=false,raises:=[]} tg t=true) (hd:chkC {k with N:=N',sc:=Ws scope k.sc,cells:=false,own:=Jz scope,tries:=false,raises:=[]} cd ifs=true) (he:chkE {k with N:=N',sc:=Ws scope k.sc,cells:=false,own:=Jz scope,tries:=false,raises:=[]} e el=true) (ihe:Zj5 c e) (ihd:Zh7 c cd):
  PE X (.ListComp el [⟨t,iter,ifs,0⟩] scope pos) (tF w0 (te c Z (.comp N' js tg it cd e)))∧
  ∀(i:Nat) (x:Str) (px spos:Pos),X.N[i]?=some x→X.env.scope.names.lookup x=some .local→swapsWith (.ListComp el [⟨t,iter,ifs,0⟩] scope pos) (some (.Name x px)) spos.line X.env=pure true→
   PS X (.Assign [.Name x px] (.ListComp el [⟨t,iter,ifs,0⟩] scope pos) spos) (fun R σ H=>tF w0 (te c Z (.comp N' js tg it cd e)) σ H fun v H1=>R.nx (σ.set i (some v)) H1):=by
 have ho':Ta X.env.scope X.N N' js scope=true:=by rw[G.sc,G.N];exact ho
 have hf:∀x,foldedSetIterable iter X.env x=pure x:=by
  intro x
  cases iter<;>first | rfl | cases hns
 have hg:=fun cl C fp pins s H=>(Good.block G hc (scope:=scope) hn cl C fp pins s H).tgt tg t ht
 have hel:=fun cl C fp pins s H=>(ihe _ _ _ _ el (Good.block G hc (scope:=scope) hn cl C fp pins s H) he).1
 have key:∀σ H Q,tF w0 (te c Z (.comp N' js tg it cd e)) σ H Q→iF w0 (tit c Z it) σ H fun J H1=>∀p,H1 p=none→∃W:Nat→Nat→L2.St→Hp→Prop,(∃m,W 0 m (Si js σ) (upd H1 p (.lst [])))∧
   ∀i m σc Hc,W i m σc Hc→(J.stop i Hc∧Q (.ref p) Hc)∨(J.go i Hc∧∀x H',J.yld i Hc x H'→gF w0 tg x σc H' fun σ2 H2=>tFT w0 (tcd c noX cd) σ2 H2 fun b H3=>if b=true then tF w0 (te c noX e) σ2 H3 fun y H4=>∃acc,H4 p=some (.lst acc)∧acc.length<sizeLine∧
    ∃m',m'<m∧W (i+1) m' σ2 (upd H4 p (.lst (acc++[y]))) else ∃m',m'<m∧W (i+1) m' σ2 H3):=by
  rintro σ H Q ⟨w,σD,M,QD,S,g,a⟩
  refine⟨w,σD,M,_,S,g,fun J w1 own xs M1 x1 R1 jk q1=>?_⟩
  exact Zd3 (S.ext.trans x1) rfl R1 (Zm2 (S.env.ext x1)) jk q1 fun v w2 d M2 x2 r2 rd2 zz92=>by obtain⟨e2,q2⟩:=zz92;exact a v w2 d M2 (x1.trans x2) r2 rd2 (by rw[e2];exact q2)
 have nocd:∀{σ:L2.St} {H:Hp} {P:Bool→Hp→Prop},cd= .no→tFT w0 (tcd c noX cd) σ H P→P true H:=by
  intro σ H P e h
  subst e
  obtain⟨w,σD,M,QD,S,g,a⟩:=h
  have:=a true w M (Ext.refl w) S.rs g
  rw[S.heap] at this
  exact this
 cases ifs with
 | nil=>
  have hcd:cd= .no:=by
   cases cd with
   | no=>rfl
   | yes e'=>exact absurd hd Bool.false_ne_true
  have key0:∀σ H Q,tF w0 (te c Z (.comp N' js tg it cd e)) σ H Q→Z66 js (iF w0 (tit c Z it)) (gF w0 tg) (tF w0 (te c noX e)) σ H Q:=by
   intro σ H Q h
   obtain⟨w,σD,M,QD,S,g,a⟩:=key σ H Q h
   refine⟨w,σD,M,QD,S,g,fun J w' own xs M' x' r' jk q p hp=>?_⟩
   obtain⟨W,w1,w2⟩:=a J w' own xs M' x' r' jk q p hp
   refine⟨W,w1,fun i m σc Hc hW=>(w2 i m σc Hc hW).imp id fun⟨z1,z2⟩=>⟨z1,fun x H' hy=>?_⟩⟩
   obtain⟨v1,v2,v3,v4,v5,v6,v7,v8,v9⟩:=z2 x H' hy
   refine⟨v1,v2,v3,v4,v5,v6,v7,v8,fun σ' σD' en q'=>?_⟩
   have:=nocd hcd (v9 σ' σD' en q')
   rw[if_pos rfl] at this
   exact this
  exact⟨PE.imp (Zf6 (G.calm hc) ho' hi hg hel hf) key0,fun i x px spos h1 h2 h3=>PS.imp (Z98 (G.calm hc) ho' G.nd h1 h2 hi hg hel h3 hf) fun R σ H h=>key0 σ H _ h⟩
 | cons x0 ifs=>
  have hq:∀cl C fp pins s H,∃x,x0::ifs=[x]∧PT (cxC X N' scope cl C fp pins s H) x (tFT w0 (tcd c noX cd)):=fun cl C fp pins s H=>by
   rcases ihd.2 _ _ _ _ (x0::ifs) (Good.block G hc (scope:=scope) hn cl C fp pins s H) hd with h | ⟨h,_⟩
   ·exact h
   ·cases h
  have e0:ifs=[]:=by
   cases cd with
   | no=>exact absurd hd Bool.false_ne_true
   | yes e'=>
    cases ifs with
    | nil=>rfl
    | cons _ _=>exact absurd hd Bool.false_ne_true
  subst e0
  have hq':∀cl C fp pins s H,PT (cxC X N' scope cl C fp pins s H) x0 (tFT w0 (tcd c noX cd)):=fun cl C fp pins s H=>by
   obtain⟨x,h1,h2⟩:=hq cl C fp pins s H
   cases h1
   exact h2
  exact⟨PE.imp (Zg5 (G.calm hc) ho' hi hg hq' hel hf) key,fun i x px spos h1 h2 h3=>PS.imp (Zg0 (G.calm hc) ho' G.nd h1 h2 hi hg hq' hel h3 hf) fun R σ H h=>key σ H _ h⟩
end
section
variable{c:Cfg}{k:Ck}{Z:DX}{w0:Vw}{X:Cx}
theorem te_cmp_bl{op:Cm}{a b:E}(σD:DEnv)(M:Z2)(QD:DK)(h:te c Z (.cmp op a b) σD M QD):te c Z (.cmp op a b) σD M fun d M'=>(∃b,d= .bl b)∧QD d M':=by
 have e:(fun(d:D) (M':Z2)=>QD d M')=QD:=rfl
 show te c Z a σD M fun x M1=>te c Z b σD M1 fun y M2=>cmD M2 op x y fun r=>(∃b,D.bl r= .bl b)∧QD (.bl r) M2
 have h:te c Z a σD M (fun x M1=>te c Z b σD M1 fun y M2=>cmD M2 op x y fun r=>QD (.bl r) M2):=h
 have:(fun(x:D) (M1:Z2)=>te c Z b σD M1 fun y M2=>cmD M2 op x y fun r=>QD (.bl r) M2)=fun x M1=>te c Z b σD M1 fun y M2=>cmD M2 op x y fun r=>(∃b,D.bl r= .bl b)∧QD (.bl r) M2:=by
  funext x M1
  congr 1
  funext y M2
  congr 1
  funext r
  exact propext ⟨fun h=>⟨⟨r,rfl⟩,h⟩,fun h=>h.2⟩
 rw[this] at h
 exact h
theorem Zk9{a b:Expr}{rest:List Expr}{pos:Pos}{ta tb:TE}(ha:PE X a ta)(hb:PE X (.BoolOp .And (b::rest) pos) tb):PE X (.BoolOp .And (a::b::rest) pos) (fun σ H Q=>ta σ H fun x H1=>∃z,TruV X.K x H1 z∧if z=true then tb σ H1 Q else Q x H1):=by
 intro pins s σ H Q I h
 refine BoolOp_and (thn (ha pins s σ H _ I h) fun v s1 zz94=>?_)
 obtain⟨x,H1,I1,r1,q1⟩:=zz94
 refine thn (Gr pins s1 σ H1 x v (fun z H2=>if z=true then tb σ H2 Q else Q x H2) I1 r1 q1) fun z s2 zz95=>?_
 obtain⟨H2,I2,q2⟩:=zz95
 cases z with
 | true=>exact hb pins s2 σ H2 Q I2 (by rw[if_pos rfl] at q2;exact q2)
 | false=>exact⟨x,H2,I2,r1,by rw[if_neg Bool.false_ne_true] at q2;exact q2⟩
theorem Y08{a b:Expr}{rest:List Expr}{pos:Pos}{ta tb:TE}(ha:PE X a ta)(hb:PE X (.BoolOp .Or (b::rest) pos) tb):PE X (.BoolOp .Or (a::b::rest) pos) (fun σ H Q=>ta σ H fun x H1=>∃z,TruV X.K x H1 z∧if z=true then Q x H1 else tb σ H1 Q):=by
 intro pins s σ H Q I h
 refine BoolOp_or (thn (ha pins s σ H _ I h) fun v s1 zz96=>?_)
 obtain⟨x,H1,I1,r1,q1⟩:=zz96
 refine thn (Gr pins s1 σ H1 x v (fun z H2=>if z=true then Q x H2 else tb σ H2 Q) I1 r1 q1) fun z s2 zz97=>?_
 obtain⟨H2,I2,q2⟩:=zz97
 cases z with
 | false=>exact hb pins s2 σ H2 Q I2 (by rw[if_neg Bool.false_ne_true] at q2;exact q2)
 | true=>exact⟨x,H2,I2,r1,by rw[if_pos rfl] at q2;exact q2⟩
theorem Nw{M:Z2}{n:Nat}{xs:List D}{ys:List (Key×D)}(h1:Zf M n=some xs)(h2:W8 M n=some ys):False:=by
 unfold Zf at h1
 unfold W8 at h2
 cases h:M[n]? with
 | none=>rw[h] at h2;cases h2
 | some c=>rw[h] at h1 h2;cases c<;>simp at h1 h2
theorem Gm{M:Z2}{x:D}{k:Bool}{A:Prop}{P:Bool→Prop}:truD M x (fun b=>if b=k then A else truD M x P)=truD M x (fun b=>if b=k then A else P b):=by
 cases x with
 | str y=>
  apply propext
  show(y.length≤sizeLine∧if ((y.length:Int) !=0)=k then A else(y.length≤sizeLine∧P ((y.length:Int) !=0)))↔(y.length≤sizeLine∧if ((y.length:Int) !=0)=k then A else P ((y.length:Int) !=0))
  split<;>simp (config:={contextual:=true})
 | ref n=>
  apply propext
  have key:∀Q:Bool→Prop,truD M (.ref n) Q↔(∃xs,Zf M n=some xs∧Q (!xs.isEmpty))∨(∃xs,W8 M n=some xs∧Q (!xs.isEmpty)):=fun Q=>Iff.rfl
  constructor
  ·intro h
   rcases(key _).mp h with⟨xs,h1,h2⟩ | ⟨xs,h1,h2⟩
   ·refine(key _).mpr (.inl ⟨xs,h1,?_⟩)
    split at h2
    ·rename_i e;rw[if_pos e];exact h2
    ·rename_i e
     rw[if_neg e]
     rcases(key _).mp h2 with⟨ys,g1,g2⟩ | ⟨ys,g1,g2⟩
     ·rw[h1] at g1;cases g1;exact g2
     ·exact(Nw h1 g1).elim
   ·refine(key _).mpr (.inr ⟨xs,h1,?_⟩)
    split at h2
    ·rename_i e;rw[if_pos e];exact h2
    ·rename_i e
     rw[if_neg e]
     rcases(key _).mp h2 with⟨ys,g1,g2⟩ | ⟨ys,g1,g2⟩
     ·exact(Nw g1 h1).elim
     ·rw[h1] at g1;cases g1;exact g2
  ·intro h
   rcases(key _).mp h with⟨xs,h1,h2⟩ | ⟨xs,h1,h2⟩
   ·refine(key _).mpr (.inl ⟨xs,h1,?_⟩)
    split at h2
    ·rename_i e;rw[if_pos e];exact h2
    ·rename_i e;rw[if_neg e];exact(key _).mpr (.inl ⟨xs,h1,h2⟩)
   ·refine(key _).mpr (.inr ⟨xs,h1,?_⟩)
    split at h2
    ·rename_i e;rw[if_pos e];exact h2
    ·rename_i e;rw[if_neg e];exact(key _).mpr (.inr ⟨xs,h1,h2⟩)
 | non=>rfl
 | bl b=>rfl
 | int i=>rfl
 | tup xs=>rfl
 | _=>rfl
theorem te_bop_tt{e e2:E}{r:Es}{σD:DEnv}{M:Z2}{QD:Bool→Z2→Prop}(h:ttD (tbop c Z true (.cons e (.cons e2 r))) σD M QD):
  ttD (te c Z e) σD M fun z M1=>if z=true then ttD (tbop c Z true (.cons e2 r)) σD M1 QD else QD false M1:=by
 have hh:(fun(x:D) (M1:Z2)=>truD M1 x fun b=>if b=true then ttD (tbop c Z true (.cons e2 r)) σD M1 QD else truD M1 x fun b=>QD b M1)=
   fun x M1=>truD M1 x fun z=>if z=true then ttD (tbop c Z true (.cons e2 r)) σD M1 QD else QD false M1:=by
  funext x M1
  rw[Gm]
  congr 1
  funext b
  cases b<;>rfl
 have h':te c Z e σD M fun(x:D) (M1:Z2)=>truD M1 x fun b=>if b=true then ttD (tbop c Z true (.cons e2 r)) σD M1 QD else truD M1 x fun b=>QD b M1:=h
 rw[hh] at h'
 exact h'
theorem te_bop_ff{e e2:E}{r:Es}{σD:DEnv}{M:Z2}{QD:Bool→Z2→Prop}(h:ttD (tbop c Z false (.cons e (.cons e2 r))) σD M QD):
  ttD (te c Z e) σD M fun z M1=>if z=true then QD true M1 else ttD (tbop c Z false (.cons e2 r)) σD M1 QD:=by
 have hh:(fun(x:D) (M1:Z2)=>truD M1 x fun b=>if b=false then ttD (tbop c Z false (.cons e2 r)) σD M1 QD else truD M1 x fun b=>QD b M1)=
   fun x M1=>truD M1 x fun z=>if z=true then QD true M1 else ttD (tbop c Z false (.cons e2 r)) σD M1 QD:=by
  funext x M1
  rw[Gm]
  congr 1
  funext b
  cases b<;>rfl
 have h':te c Z e σD M fun(x:D) (M1:Z2)=>truD M1 x fun b=>if b=false then ttD (tbop c Z false (.cons e2 r)) σD M1 QD else truD M1 x fun b=>QD b M1:=h
 rw[hh] at h'
 exact h'
end
theorem Ct{k:Ck}{a:E}{ex:Expr}(h:chkE k (.lrev a) ex=true):∃x y l p1 p2 q1 q2,ex= .Call (.Name x p1) [.Call (.Name y p2) [l] [] q2] [] q1∧
  (k.calm&&x==("list":Str)&&y==("reversed":Str)&&k.glob x&&k.glob y&&k.BN.contains x&&k.BN.contains y&&Xu l&&chkE k a l)=true:=by
 cases ex with
 | Call fn as kws q1=>
  cases fn with
  | Name x p1=>
   cases as with
   | nil=>exact absurd h Bool.false_ne_true
   | cons a0 as=>
   cases a0 with
   | Call fn2 as2 kws2 q2=>
    cases fn2 with
    | Name y p2=>
     cases as2 with
     | nil=>exact absurd h Bool.false_ne_true
     | cons l ls=>
     cases ls with
     | cons _ _=>exact absurd h Bool.false_ne_true
     | nil=>
     cases kws2 with
     | cons _ _=>exact absurd h Bool.false_ne_true
     | nil=>
     cases as with
     | cons _ _=>exact absurd h Bool.false_ne_true
     | nil=>
     cases kws with
     | cons _ _=>exact absurd h Bool.false_ne_true
     | nil=>exact⟨x,y,l,p1,p2,q1,q2,rfl,h⟩
    | _=>exact absurd h Bool.false_ne_true
   | _=>exact absurd h Bool.false_ne_true
  | _=>exact absurd h Bool.false_ne_true
 | _=>exact absurd h Bool.false_ne_true
theorem B3{k:Ck}{b:Bool}{a:E}{ex:Expr}(h:chkE k (.setf b a) ex=true):∃x y l p1 p2 q1 q2,ex= .Call (.Name x p1) [.Call (.Name y p2) [l] [] q2] [] q1∧
  (k.calm&&x==(if b then "sorted" else "len":Str)&&y==("set":Str)&&k.glob x&&k.glob y&&k.BN.contains x&&k.BN.contains y&&Xu l&&chkE k a l)=true:=by
 cases ex with
 | Call fn as kws q1=>
  cases fn with
  | Name x p1=>
   cases as with
   | nil=>exact absurd h Bool.false_ne_true
   | cons a0 as=>
   cases a0 with
   | Call fn2 as2 kws2 q2=>
    cases fn2 with
    | Name y p2=>
     cases as2 with
     | nil=>exact absurd h Bool.false_ne_true
     | cons l ls=>
     cases ls with
     | cons _ _=>exact absurd h Bool.false_ne_true
     | nil=>
     cases kws2 with
     | cons _ _=>exact absurd h Bool.false_ne_true
     | nil=>
     cases as with
     | cons _ _=>exact absurd h Bool.false_ne_true
     | nil=>
     cases kws with
     | cons _ _=>exact absurd h Bool.false_ne_true
     | nil=>exact⟨x,y,l,p1,p2,q1,q2,rfl,h⟩
    | _=>exact absurd h Bool.false_ne_true
   | _=>exact absurd h Bool.false_ne_true
  | _=>exact absurd h Bool.false_ne_true
 | _=>exact absurd h Bool.false_ne_true
theorem Cu{k:Ck}{ps:List (Str×Str)}{ex:Expr}(h:chkE k (.dctS ps) ex=true):∃ks vs pos,ex= .Dict ks vs pos∧(decide (ps.length≤15)&&decide (0<ps.length)&&chkP ps ks vs)=true:=by
 cases ex with
 | Dict ks vs pos=>exact⟨ks,vs,pos,rfl,h⟩
 | _=>exact absurd h Bool.false_ne_true
theorem Ce{k:Ck}{a:E}{ex:Expr}(h:chkE k (.anyf a) ex=true):∃x l p1 q1,ex= .Call (.Name x p1) [l] [] q1∧(k.calm&&x==("any":Str)&&k.glob x&&k.BN.contains x&&Xu l&&chkE k a l)=true:=by
 cases ex with
 | Call fn ls kws pos=>
  cases fn with
  | Name x np=>
   match ls,kws,h with
   | [l],[],h=>exact⟨x,l,np,pos,rfl,h⟩
  | _=>exact absurd h Bool.false_ne_true
 | _=>exact absurd h Bool.false_ne_true
theorem Z84{k:Ck}{es:Es}{ex:Expr}(h:Zb1 k (.zip es) ex=true):∃l ls p q,ex= .Call (.Name "zip" p) (l::ls) [] q∧(k.glob "zip"&&k.BN.contains "zip"&&Vu k es (l::ls))=true:=by
 obtain⟨fn,ls,kws,pos,rfl,h⟩:=Xb h
 obtain⟨x,np,rfl,h⟩:=Yp h
 obtain⟨rfl,h⟩:=Wv h
 obtain⟨l,ls,rfl,h⟩:=Gd h
 change (_&&_)=true at h
 simp only[Bool.and_eq_true,beq_iff_eq] at h
 obtain⟨⟨⟨rfl,h1⟩,h2⟩,h3⟩:=h
 refine⟨l,ls,_,_,rfl,?_⟩
 simp only[Bool.and_eq_true]
 exact⟨⟨h1,h2⟩,h3⟩
mutual
theorem Zr(c:Cfg):∀e:E,Zj5 c e
 | .var i,k,Z,w0,X,ex,G,h=>by
  obtain⟨x,pos,rfl,h⟩:=Yp h
  change (_&&_)=true at h
  simp only[Bool.and_eq_true,beq_iff_eq] at h
  exact both G (Bc G h.1 h.2) fun _=>rfl
 | .int i,k,Z,w0,X,ex,G,h=>by
  obtain⟨v,j,pos,rfl,h⟩:=Wm h
  cases v with
  | int m=>
   have h:(i==m)=true:=h
   simp only[beq_iff_eq] at h
   subst h
   exact both G (PE.imp Zv6 fun σ H Q q=>Qx (fun _ _=>Zg.mpr rfl) q) fun _=>rfl
  | _=>exact absurd h Bool.false_ne_true
 | .bl i,k,Z,w0,X,ex,G,h=>by
  obtain⟨v,j,pos,rfl,h⟩:=Wm h
  cases v with
  | bool m=>
   have h:(i==m)=true:=h
   simp only[beq_iff_eq] at h
   subst h
   exact both G (PE.imp Y18 fun σ H Q q=>Qx (fun _ _=>Xw.mpr rfl) q) fun _=>rfl
  | _=>exact absurd h Bool.false_ne_true
 | .non,k,Z,w0,X,ex,G,h=>by
  obtain⟨v,j,pos,rfl,h⟩:=Wm h
  cases v with
  | none=>exact both G (PE.imp Zy2 fun σ H Q q=>Qx (fun _ _=>Yi.mpr rfl) q) fun _=>rfl
  | _=>exact absurd h Bool.false_ne_true
 | .str i,k,Z,w0,X,ex,G,h=>by
  obtain⟨v,j,pos,rfl,h⟩:=Wm h
  cases v with
  | str m=>
   have h:(i==m)=true:=h
   simp only[beq_iff_eq] at h
   subst h
   exact both G (PE.imp Z23 fun σ H Q q=>Qx (fun _ _=>Zw.mpr rfl) q) fun _=>rfl
  | _=>exact absurd h Bool.false_ne_true
 | .ty t,k,Z,w0,X,ex,G,h=>by
  obtain⟨x,pos,rfl,h⟩:=Yp h
  change (_&&_)=true at h
  simp only[Bool.and_eq_true,beq_iff_eq,List.contains_iff_mem] at h
  obtain⟨g1,g2,g3⟩:=G.gl h.1.2
  exact both G (PE.imp (Zs3 (v:= .ty (Xf t)) g1 (G.blt x h.2) (by rw[h.1.1];exact Zk1 t) rfl g3 g2) fun σ H Q q=>Qx (fun _ _=>Zn2.mpr rfl) q) fun _=>rfl
 | .glb g,k,Z,w0,X,ex,G,h=>by
  obtain⟨x,pos,rfl,h⟩:=Yp h
  change (_&&_)=true at h
  simp only[Bool.and_eq_true,beq_iff_eq] at h
  exact both G (Z31 G h.1 h.2) fun _=>rfl
 | .bin op a b,k,Z,w0,X,ex,G,h=>by
  obtain⟨l,o,r,pos,rfl,h⟩:=Z26 h
  change (_&&_)=true at h
  simp only[Bool.and_eq_true,beq_iff_eq] at h
  obtain⟨⟨rfl,h1⟩,h2⟩:=h
  exact both G (PE.imp (Y35 (Zb9 (w0:=w0) op) (Zr c a k Z w0 X l G h1).1 (Zr c b k Z w0 X r G h2).1) fun σ H Q q=>Z80 q) fun _=>rfl
 | .neg a,k,Z,w0,X,ex,G,h=>by
  obtain⟨o,l,pos,rfl,h⟩:=Gh h
  change (_&&_)=true at h
  simp only[Bool.and_eq_true,beq_iff_eq] at h
  obtain⟨rfl,h1⟩:=h
  refine both G (PE.imp (Y40 Zy7 (Zr c a k Z w0 X l G h1).1) fun σ H Q zz98=>?_) fun _=>rfl
  obtain⟨w,σD,M,QD,S,g,aq⟩:=zz98
  refine Y5 S g fun x w1 dx M1 x1 r1 rx q1=>?_
  split at q1
  ·cases Zg.mp rx
   exact⟨_,rfl,aq _ w1 _ M1 x1 r1 (Zg.mpr rfl) q1⟩
  ·exact q1.elim
 | .not a,k,Z,w0,X,ex,G,h=>by
  obtain⟨o,l,pos,rfl,h⟩:=Gh h
  change (_&&_)=true at h
  simp only[Bool.and_eq_true,beq_iff_eq] at h
  obtain⟨rfl,h1⟩:=h
  obtain⟨i1,i2⟩:=Zr c a k Z w0 X l G h1
  refine⟨PE.imp (Zl1 i1) fun σ H Q ⟨w,σD,M,QD,S,g,aq⟩=>?_,fun hn=>PT.imp (Zv5 (i2 hn)) fun σ H Q ⟨w,σD,M,QD,S,g,aq⟩=>?_⟩
  ·refine Y5 S g fun x w1 dx M1 x1 r1 rx q1=>?_
   obtain⟨b,t1,t2⟩:=To (K:=X.K) (by rw[x1.K,S.K,G.eK]) r1 rx q1
   exact⟨b,t1,aq _ w1 _ M1 x1 r1 (Xw.mpr rfl) t2⟩
  ·exact⟨w,σD,M,fun b M1=>QD (!b) M1,S,g,fun b w' M' x' r' q'=>aq _ w' M' x' r' q'⟩
 | .cmp op a b,k,Z,w0,X,ex,G,h=>by
  obtain⟨l,os,rs,pos,rfl,h⟩:=Z44 h
  obtain⟨o,rfl,h⟩:=Wp h
  obtain⟨r,rfl,h⟩:=Wp h
  change (_&&_)=true at h
  simp only[Bool.and_eq_true,beq_iff_eq] at h
  obtain⟨⟨⟨rfl,h0⟩,h1⟩,h2⟩:=h
  have hm:behindInMarks (cmOf op) r=false:=by
   cases r with
   | Set es kk p=>cases op<;>first | (simp[isIn,Z69] at h0;done) | (simp[behindInMarks,cmOf])
   | _=>rfl
  have ia:=(Zr c a k Z w0 X l G h1).1
  have ib:=(Zr c b k Z w0 X r G h2).1
  refine⟨PE.imp (Zs2 (Gn (w0:=w0) G.eK G.units op) ia ib hm) fun σ H Q q=>Nm q,fun _=>Zs5 (PT.imp (Zo3 (Gn (w0:=w0) G.eK G.units op) ia ib hm) fun σ H Q q=>Nm q) te_cmp_bl⟩
 | .bop b es,k,Z,w0,X,ex,G,h=>by
  obtain⟨o,ls,pos,rfl,h⟩:=Cb h
  change (_&&_)=true at h
  simp only[Bool.and_eq_true,beq_iff_eq] at h
  obtain⟨rfl,h⟩:=h
  cases b with
  | true=>
   obtain⟨i1,i2⟩:=(Wo c es k Z w0 X ls G h).2 true pos
   exact⟨i1,fun hn=>(i2 hn).pt⟩
  | false=>
   obtain⟨i1,i2⟩:=(Wo c es k Z w0 X ls G h).2 false pos
   exact⟨i1,fun hn=>(i2 hn).pt⟩
 | .lst es,k,Z,w0,X,ex,G,h=>by
  obtain⟨ls,pos,rfl,h⟩:=Z41 h
  refine both G (PE.imp (Zz2 (Wo c es k Z w0 X ls G h).1) fun σ H Q zz101=>?_) fun _=>rfl
  obtain⟨w,σD,M,QD,S,g,aq⟩:=zz101
  refine⟨w,σD,M,_,S,g,fun vs w1 ds M1 x1 r1 rd1 q1=>⟨by rw[rd1.length];exact q1.1,fun p hp=>?_⟩⟩
  obtain⟨y1,y2,y3⟩:=Wn r1 hp rd1
  exact aq _ _ _ _ (x1.trans y1) y2 y3 q1.2
 | .tup es,k,Z,w0,X,ex,G,h=>by
  obtain⟨ls,kk,pos,rfl,h⟩:=Ji h
  refine both G (PE.imp (Zy0 (Wo c es k Z w0 X ls G h).1) fun σ H Q zz102=>?_) fun _=>rfl
  obtain⟨w,σD,M,QD,S,g,aq⟩:=zz102
  refine⟨w,σD,M,_,S,g,fun vs w1 ds M1 x1 r1 rd1 q1=>⟨by rw[rd1.length];exact q1.1,fun p hp=>?_⟩⟩
  obtain⟨y1,y2,y3⟩:=T0 r1 hp rd1
  exact aq _ _ _ _ (x1.trans y1) y2 y3 q1.2
 | .dct a b,k,Z,w0,X,ex,G,h=>by
  obtain⟨ks,vs,pos,rfl,h⟩:=Z27 h
  obtain⟨q,rfl,h⟩:=Wp h
  obtain⟨l,rfl,h⟩:=Zr0 h
  obtain⟨r,rfl,h2⟩:=Wp h
  change (_&&_)=true at h2
  rw[Bool.and_eq_true] at h2
  exact both G (Z32 G (Zr c a k Z w0 X l G h2.1).1 (Zr c b k Z w0 X r G h2.2).1) fun _=>rfl
 | .ix a b,k,Z,w0,X,ex,G,h=>by
  obtain⟨l,r,pos,rfl,h⟩:=J1 h
  change (_&&_)=true at h
  simp only[Bool.and_eq_true] at h
  exact both G (Za1 G h.1.1 (Zr c a k Z w0 X l G h.1.2).1 (Zr c b k Z w0 X r G h.2).1) fun _=>rfl
 | .sl a lo hi,k,Z,w0,X,ex,G,h=>by
  obtain⟨l,r,pos,rfl,h⟩:=J1 h
  obtain⟨x,y,z,p2,rfl,h⟩:=Z19 h
  obtain⟨rfl,h⟩:=Zr9 h
  change (_&&_)=true at h
  simp only[Bool.and_eq_true] at h
  exact both G (Ze4 G (Zr c a k Z w0 X l G h.1.1).1 ((Qy c lo).1 k Z w0 X x G h.1.2) ((Qy c hi).1 k Z w0 X y G h.2)) fun _=>rfl
 | .slW a lo hi,k,Z,w0,X,ex,G,h=>by
  cases ex with
  | Subscript l r pos=>
   cases r with
   | Slice x y z p2=>
    cases z with
    | none=>
     change (_&&_)=true at h
     simp only[Bool.and_eq_true] at h
     exact both G (B7 G (Zr c a k Z w0 X l G h.1.1).1 ((Qy c lo).1 k Z w0 X x G h.1.2) ((Qy c hi).1 k Z w0 X y G h.2)) fun _=>rfl
    | some _=>exact absurd h Bool.false_ne_true
   | _=>exact absurd h Bool.false_ne_true
  | _=>exact absurd h Bool.false_ne_true
 | .setf b a,k,Z,w0,X,ex,G,h=>by
  obtain⟨x,y,l,p1,p2,q1,q2,rfl,hs⟩:=B3 h
  simp only[Bool.and_eq_true,beq_iff_eq,List.contains_iff_mem] at hs
  obtain⟨⟨⟨⟨⟨⟨⟨⟨h1,h2⟩,h3⟩,h4⟩,h5⟩,h6⟩,h7⟩,h8⟩,h9⟩:=hs
  exact both G (B5 G h1 h2 h3 h4 h5 h6 h7 h8 (Zr c a k Z w0 X l G h9).1) fun _=>rfl
 | .lrev a,k,Z,w0,X,ex,G,h=>by
  obtain⟨x,y,l,p1,p2,q1,q2,rfl,hs⟩:=Ct h
  simp only[Bool.and_eq_true,beq_iff_eq,List.contains_iff_mem] at hs
  obtain⟨⟨⟨⟨⟨⟨⟨⟨h1,h2⟩,h3⟩,h4⟩,h5⟩,h6⟩,h7⟩,h8⟩,h9⟩:=hs
  exact both G (Co G h1 h2 h3 h4 h5 h6 h7 h8 (Zr c a k Z w0 X l G h9).1) fun _=>rfl
 | .anyf a,k,Z,w0,X,ex,G,h=>by
  obtain⟨x,l,p1,q1,rfl,hs⟩:=Ce h
  simp only[Bool.and_eq_true,beq_iff_eq,List.contains_iff_mem] at hs
  obtain⟨⟨⟨⟨⟨h1,h2⟩,h3⟩,h4⟩,h5⟩,h6⟩:=hs
  exact both G (Eu G h1 h2 h3 h4 h5 (Zr c a k Z w0 X l G h6).1) fun _=>rfl
 | .dctS ps,k,Z,w0,X,ex,G,h=>by
  obtain⟨ks,vs,pos,rfl,hs⟩:=Cu h
  simp only[Bool.and_eq_true,decide_eq_true_eq] at hs
  exact both G (Ej G hs.1.1 hs.1.2 hs.2) fun _=>rfl
 | .call f es,k,Z,w0,X,ex,G,h=>by
  obtain⟨fn,ls,kws,pos,rfl,h⟩:=Xb h
  obtain⟨x,np,rfl,h⟩:=Yp h
  obtain⟨rfl,h⟩:=Wv h
  change (_&&_)=true at h
  simp only[Bool.and_eq_true,beq_iff_eq] at h
  exact both G (Ez G h.1.1.1 h.1.1.2 h.1.2 h.2 (Wo c es k Z w0 X ls G h.2).1) fun _=>rfl
 | .bf b es,k,Z,w0,X,ex,G,h=>by
  obtain⟨fn,ls,kws,pos,rfl,h⟩:=Xb h
  obtain⟨x,np,rfl,h⟩:=Yp h
  obtain⟨rfl,h⟩:=Wv h
  obtain⟨l,ls,rfl,h⟩:=Gd h
  change (_&&_)=true at h
  simp only[Bool.and_eq_true,beq_iff_eq,Bool.or_eq_true,List.contains_iff_mem] at h
  exact both G (Zf8 G h.1.1.1.1 h.1.1.1.2 h.1.1.2 h.1.2 h.2 (Wo c es k Z w0 X (l::ls) G h.2).1) fun _=>rfl
 | .mt m o es,k,Z,w0,X,ex,G,h=>by
  obtain⟨fn,ls,kws,pos,rfl,h⟩:=Xb h
  obtain⟨l,nm,ap,rfl,h⟩:=Ew h
  obtain⟨rfl,h⟩:=Wv h
  change (_&&_)=true at h
  simp only[Bool.and_eq_true,beq_iff_eq,decide_eq_true_eq] at h
  obtain⟨⟨⟨⟨⟨rfl,h1⟩,h2⟩,h3⟩,h4⟩,h5⟩:=h
  exact both G (Zd0 G h1 (by rw[h2];simp) h3 h5 (Zr c o k Z w0 X l G h4).1 (Wo c es k Z w0 X ls G h5).1) fun _=>rfl
 | .comp N' js tg it cd e,k,Z,w0,X,ex,G,h=>by
  obtain⟨el,gens,scope,pos,rfl,h⟩:=E4 h
  obtain⟨g,rfl,h⟩:=Wp h
  obtain⟨t,iter,ifs,as⟩:=g
  obtain⟨rfl,h⟩:=Z11 h
  change (_&&_)=true at h
  simp only[Bool.and_eq_true,decide_eq_true_eq] at h
  obtain⟨⟨⟨⟨⟨⟨⟨⟨h1,h2⟩,h3⟩,h4⟩,h5⟩,h6⟩,h7⟩,h8⟩,h9⟩:=h
  exact both G (Qz G h1 h2 h3 h5 (Z70 c it k Z w0 X t iter G h4 h9) h6 h7 h8 (Zr c e) (Qy c cd)).1 fun _=>rfl
theorem Wo(c:Cfg):∀es:Es,Zq1 c es
 | .nil,k,Z,w0,X,ls,G,h=>by
  cases ls with
  | nil=>
   refine⟨PA.imp Vv fun σ H Q zz103=>?_,fun b pos=>⟨PE.imp (t:=fun _ _ _=>False) (fun _ _ _ _ _ _ h=>h.elim) fun σ H Q zz104=>by obtain⟨w,σD,M,QD,S,g,aq⟩:=zz104;exact g,fun _ whole pins s σ H Q I zz105=>by obtain⟨w,σD,M,QD,S,g,aq⟩:=zz105;exact g.elim⟩⟩
   obtain⟨w,σD,M,QD,S,g,aq⟩:=zz103
   have:=aq [] w [] M (Ext.refl w) S.rs (RDs.nil w) g
   rw[S.heap] at this
   exact this
  | cons l ls=>exact absurd h Bool.false_ne_true
 | .cons e r,k,Z,w0,X,ls,G,h=>by
  cases ls with
  | nil=>exact absurd h Bool.false_ne_true
  | cons l ls=>
   change (_&&_)=true at h
   simp only[Bool.and_eq_true] at h
   obtain⟨ie,it⟩:=Zr c e k Z w0 X l G h.1.1
   obtain⟨ir,ib⟩:=Wo c r k Z w0 X ls G h.2
   refine⟨PA.imp (Xr ie ir (Zm h.1.2)) fun σ H Q ⟨w,σD,M,QD,S,g,aq⟩=>?_,fun b pos=>?_⟩
   ·refine Y5 S g fun v w1 d M1 x1 r1 rd1 q1=>?_
    refine⟨w1,σD,M1,_,S.next x1 r1,q1,fun vs w2 ds M2 x2 r2 rd2 q2=>?_⟩
    exact aq _ w2 _ M2 (x1.trans x2) r2 (RDs.cons (rd1.ext x2) rd2) q2
   ·cases r with
    | nil=>
     cases ls with
     | cons _ _=>exact absurd h.2 Bool.false_ne_true
     | nil=>
      refine⟨PE.imp (Zu5 ie) fun σ H Q q=>q,fun hn=>?_⟩
      have hn':noIf e=true:=by simpa[Ef] using hn
      cases b with
      | true=>exact fun whole pins s σ H Q I q=>Zq9 (it hn') whole pins s σ H Q I q
      | false=>exact fun whole pins s σ H Q I q=>Zt6 (it hn') whole pins s σ H Q I q
    | cons e2 r2=>
     cases ls with
     | nil=>exact absurd h.2 Bool.false_ne_true
     | cons l2 ls=>
      obtain⟨jb,jw⟩:=ib b pos
      constructor
      ·cases b with
       | true=>
        refine PE.imp (Zk9 ie jb) fun σ H Q zz107=>?_
        obtain⟨w,σD,M,QD,S,g,aq⟩:=zz107
        refine Y5 S g fun v w1 d M1 x1 r1 rd1 q1=>?_
        obtain⟨z,t1,t2⟩:=To (K:=X.K) (by rw[x1.K,S.K,G.eK]) r1 rd1 q1
        refine⟨z,t1,?_⟩
        cases z with
        | true=>rw[if_pos rfl] at t2 ⊢;exact Y5 (S.next x1 r1) t2 (aq.ext x1)
        | false=>rw[if_neg Bool.false_ne_true] at t2 ⊢;exact aq _ w1 _ M1 x1 r1 rd1 t2
       | false=>
        refine PE.imp (Y08 ie jb) fun σ H Q zz108=>?_
        obtain⟨w,σD,M,QD,S,g,aq⟩:=zz108
        refine Y5 S g fun v w1 d M1 x1 r1 rd1 q1=>?_
        obtain⟨z,t1,t2⟩:=To (K:=X.K) (by rw[x1.K,S.K,G.eK]) r1 rd1 q1
        refine⟨z,t1,?_⟩
        cases z with
        | false=>rw[if_pos rfl] at t2;rw[if_neg Bool.false_ne_true];exact Y5 (S.next x1 r1) t2 (aq.ext x1)
        | true=>rw[if_neg (by decide)] at t2;rw[if_pos rfl];exact aq _ w1 _ M1 x1 r1 rd1 t2
      ·intro hn
       have hn':noIf e=true∧Ef (.cons e2 r2)=true:=by
        have:(noIf e&&Ef (.cons e2 r2))=true:=hn
        simpa using this
       have jw':=jw hn'.2
       cases b with
       | true=>
        rintro whole pins s σ H Q I ⟨w,σD,M,QD,S,g,aq⟩
        refine Zz7 (it hn'.1) jw' whole pins s σ H Q I ?_
        refine⟨w,σD,M,fun z M1=>if z=true then ttD (tbop c Z true (.cons e2 r2)) σD M1 QD else QD false M1,S,?_,fun z w1 M1 x1 r1 q1=>?_⟩
        ·exact te_bop_tt g
        ·cases z with
         | true=>rw[if_pos rfl] at q1 ⊢;exact⟨w1,σD,M1,QD,S.next x1 r1,q1,fun z w2 M2 x2 r2 q2=>aq z w2 M2 (x1.trans x2) r2 q2⟩
         | false=>rw[if_neg Bool.false_ne_true] at q1 ⊢;exact aq _ w1 M1 x1 r1 q1
       | false=>
        rintro whole pins s σ H Q I ⟨w,σD,M,QD,S,g,aq⟩
        refine Y19 (it hn'.1) jw' whole pins s σ H Q I ?_
        refine⟨w,σD,M,fun z M1=>if z=true then QD true M1 else ttD (tbop c Z false (.cons e2 r2)) σD M1 QD,S,?_,fun z w1 M1 x1 r1 q1=>?_⟩
        ·exact te_bop_ff g
        ·cases z with
         | true=>rw[if_pos rfl] at q1 ⊢;exact aq _ w1 M1 x1 r1 q1
         | false=>rw[if_neg Bool.false_ne_true] at q1 ⊢;exact⟨w1,σD,M1,QD,S.next x1 r1,q1,fun z w2 M2 x2 r2 q2=>aq z w2 M2 (x1.trans x2) r2 q2⟩
theorem Qy(c:Cfg):∀eo:Eo,Zh7 c eo
 | .no=>⟨fun k Z w0 X lo G h=>by
   cases lo with
   | none=>
    rintro pins s σ H Q I ⟨w,σD,M,QD,S,g,aq⟩
    refine Zn0 pins s σ H Q I ?_
    have:=aq none w M (Ext.refl w) S.rs g
    rw[S.heap] at this
    exact this
   | some _=>exact absurd h Bool.false_ne_true,fun k Z w0 X ls G h=>by
   cases ls with
   | nil=>exact .inr ⟨rfl,rfl⟩
   | cons _ _=>exact absurd h Bool.false_ne_true⟩
 | .yes e=>⟨fun k Z w0 X lo G h=>by
   cases lo with
   | none=>exact absurd h Bool.false_ne_true
   | some x=>
    rintro pins s σ H Q I ⟨w,σD,M,QD,S,g,aq⟩
    refine Zs1 (Zr c e k Z w0 X x G h).1 pins s σ H Q I ?_
    refine Y5 S g fun v w1 d M1 x1 r1 rd1 q1=>?_
    split at q1
    ·cases Zg.mp rd1
     exact⟨_,rfl,aq _ w1 M1 x1 r1 q1⟩
    ·exact q1.elim,fun k Z w0 X ls G h=>by
   match ls,h with
   | [x],h=>
    change (_&&_)=true at h
    simp only[Bool.and_eq_true] at h
    exact .inl ⟨x,rfl,(Zr c e k Z w0 X x G h.1).2 h.2⟩
   | [],h=>exact absurd h Bool.false_ne_true
   | _::_::_,h=>exact absurd h Bool.false_ne_true⟩
theorem Z70(c:Cfg):∀it:It,Zw4 c it
 | .seq e,k,Z,w0,X,tg,ex,G,h,_=>by
  refine PI.imp (Zt0 (Zr c e k Z w0 X ex G h).1) fun σ H R zz109=>?_
  obtain⟨w,σD,M,QD,S,g,aq⟩:=zz109
  refine Y5 S g fun v w1 d M1 x1 r1 rd1 q1=>?_
  have hK:X.K=w1.K:=by rw[x1.K,S.K,G.eK]
  unfold itD at q1
  split at q1
  ·obtain⟨hn,rfl⟩:=Zp.mp rd1
   obtain⟨xs,z1,z2⟩:=q1
   obtain⟨_,vs,y1,y2,_⟩:=r1.listL z1
   rw[←hK] at y1
   exact .inl ⟨_,rfl,⟨vs,y1⟩,aq _ w1 _ _ M1 x1 r1 (Ze8 hK hn) z2⟩
  ·obtain⟨a,vs,rfl,y1,y2⟩:=X3.mp rd1
   exact .inr ⟨a,rfl,⟨vs,.of y1⟩,aq _ w1 _ _ M1 x1 r1 (Z24 hK (.of y1) y2) q1⟩
  ·obtain⟨a,vs,rfl,y1,y2⟩:=T3.mp rd1
   exact .inr ⟨a,rfl,⟨vs,by rw[hK];exact y1⟩,aq _ w1 _ _ M1 x1 r1 (Z24 hK y1 y2) q1⟩
  ·exact q1.elim
 | .rng1 a,k,Z,w0,X,tg,ex,G,h,_=>by
  obtain⟨fn,ls,kws,pos,rfl,h⟩:=Xb h
  obtain⟨x,np,rfl,h⟩:=Yp h
  obtain⟨rfl,h⟩:=Wv h
  obtain⟨l,rfl,h⟩:=Wp h
  change (_&&_)=true at h
  simp only[Bool.and_eq_true,beq_iff_eq,List.contains_iff_mem] at h
  obtain⟨⟨⟨⟨rfl,h1⟩,h2⟩,h3⟩,h4⟩:=h
  obtain⟨g1,g2,g3⟩:=G.gl h1
  refine PI.imp (Z65 g1 (G.blt _ h2) (Xr (Zr c a k Z w0 X l G h4).1 Vv (Zm h3)) (Zm h3)) fun σ H R zz110=>?_
  obtain⟨w,σD,M,QD,S,g,aq⟩:=zz110
  refine Y5 S g fun v w1 d M1 x1 r1 rd1 q1=>?_
  split at q1
  ·cases Zg.mp rd1
   exact⟨_,rfl,q1.1,q1.2.1,aq _ w1 _ _ M1 x1 r1 Bp q1.2.2⟩
  ·exact q1.elim
 | .rng2 a b,k,Z,w0,X,tg,ex,G,h,_=>by
  obtain⟨fn,ls,kws,pos,rfl,h⟩:=Xb h
  obtain⟨x,np,rfl,h⟩:=Yp h
  obtain⟨rfl,h⟩:=Wv h
  obtain⟨l,ls,rfl,h⟩:=Gd h
  obtain⟨r,rfl,h⟩:=Wp h
  change (_&&_)=true at h
  simp only[Bool.and_eq_true,beq_iff_eq,List.contains_iff_mem] at h
  obtain⟨⟨⟨⟨⟨⟨rfl,h1⟩,h2⟩,h3⟩,h5⟩,h4⟩,h6⟩:=h
  obtain⟨g1,g2,g3⟩:=G.gl h1
  refine PI.imp (Bd g1 (G.blt _ h2) (Xr (Zr c a k Z w0 X l G h4).1 (Xr (Zr c b k Z w0 X r G h6).1 Vv (Zm h5)) (Zm h3)) (by rw[Zm h3,Zm h5];rfl) (Zm h5)) fun σ H R zz111=>?_
  obtain⟨w,σD,M,QD,S,g,aq⟩:=zz111
  refine Y5 S g fun v w1 d M1 x1 r1 rd1 q1=>?_
  refine Y5 (S.next x1 r1) q1 fun v2 w2 d2 M2 x2 r2 rd2 q2=>?_
  split at q2
  ·cases Zg.mp rd1
   cases Zg.mp rd2
   exact⟨_,_,rfl,q2.1,aq _ w2 _ _ M2 (x1.trans x2) r2 Bp q2.2⟩
  ·exact q2.elim
 | .zip es,k,Z,w0,X,tg,ex,G,h,ht=>by
  cases tg with
  | Tuple elts ctx tp=>
   obtain⟨l,ls,p,q,rfl,h2⟩:=Z84 h
   simp only[Bool.and_eq_true,List.contains_iff_mem] at h2
   obtain⟨⟨h3,h4⟩,h5⟩:=h2
   obtain⟨g1,g2,g3⟩:=G.gl h3
   obtain⟨s1,s2⟩:=Y51 h5
   refine PI.imp (Zn4 g1 (G.blt _ h4) (Wo c es k Z w0 X (l::ls) G h5).1 s1 s2) fun σ H R zz112=>?_
   obtain⟨w,σD,M,QD,S,g,aq⟩:=zz112
   refine⟨w,σD,M,_,S,g,fun vs w1 ds M1 x1 r1 rd1 q1=>?_⟩
   obtain⟨da,db,rfl,q2⟩:=Rr q1
   have hK:X.K=w1.K:=by rw[x1.K,S.K,G.eK]
   obtain⟨v1,v2,rfl,a1,a2⟩:=rds2 rd1
   rcases Ze0 q2 with⟨n,m,ys,zs,rfl,rfl,z1,z2,z3⟩ | ⟨ys,zs,rfl,rfl,z3⟩
   ·obtain⟨hn,rfl⟩:=Zp.mp a1
    obtain⟨hm,rfl⟩:=Zp.mp a2
    obtain⟨_,us,y1,_,_⟩:=r1.listL z1
    obtain⟨_,vs,y2,_,_⟩:=r1.listL z2
    rw[←hK] at y1 y2
    exact .inl ⟨_,_,rfl,⟨us,y1⟩,⟨vs,y2⟩,aq _ w1 _ _ M1 x1 r1 (Zl8 hK hn hm) z3⟩
   ·obtain⟨p1,us,rfl,y1,y2⟩:=X3.mp a1
    obtain⟨p2,vs,rfl,y3,y4⟩:=X3.mp a2
    exact .inr ⟨_,_,us,vs,rfl,.of y1,.of y3,aq _ w1 _ _ M1 x1 r1 (Za8 y1 y3 y2 y4) z3⟩
  | _=>exact absurd ht Bool.false_ne_true
 | .enm a,k,Z,w0,X,tg,ex,G,h,ht=>by
  obtain⟨elts,ctx,tp,rfl,_⟩:=Ji (F:=fun _=>true) (show Zq2 tg (fun _=>true)=true by cases tg<;>first | rfl | exact ht)
  obtain⟨fn,ls,kws,pos,rfl,h⟩:=Xb h
  obtain⟨x,np,rfl,h⟩:=Yp h
  obtain⟨rfl,h⟩:=Wv h
  obtain⟨l,rfl,h⟩:=Wp h
  change (_&&_)=true at h
  simp only[Bool.and_eq_true,beq_iff_eq,List.contains_iff_mem] at h
  obtain⟨⟨⟨⟨rfl,h1⟩,h2⟩,h3⟩,h4⟩:=h
  obtain⟨g1,g2,g3⟩:=G.gl h1
  refine PI.imp (Zp8 g1 (G.blt _ h2) (Xr (Zr c a k Z w0 X l G h4).1 Vv (Zm h3)) (Zm h3)) fun σ H R zz113=>?_
  obtain⟨w,σD,M,QD,S,g,aq⟩:=zz113
  refine Y5 S g fun v w1 d M1 x1 r1 rd1 q1=>?_
  have hK:X.K=w1.K:=by rw[x1.K,S.K,G.eK]
  split at q1
  ·obtain⟨hn,rfl⟩:=Zp.mp rd1
   obtain⟨xs,z1,z2⟩:=q1
   obtain⟨_,vs,y1,y2,_⟩:=r1.listL z1
   rw[←hK] at y1
   exact⟨_,rfl,⟨vs,y1⟩,aq _ w1 _ _ M1 x1 r1 (Z93 hK hn) z2⟩
  ·exact q1.elim
end
noncomputable def Qn:Expr→Bool
 | .ListComp .. | .SetComp .. | .DictComp ..=>false
 | _=>true
noncomputable def N5:Expr→Bool
 | .Tuple ..=>false
 | _=>true
noncomputable def Zj0:Expr→Bool
 | .Name ..=>true
 | _=>false
noncomputable def Zq0(k:Ck)(t x:Expr):Bool:=match t,x with
 | .Name n pos,.ListComp _ _ scope p=>k.sc.kind== .function&&k.loc n&&pos.line==p.line&&!(scope.names.any fun(m,j)=>m==n&&(j== .local || j== .cell))
 | _,_=>false
noncomputable def Zu7(k:Ck)(t x:Expr):Bool:=match t,x with
 | .Name n _,.ListComp ..=>k.sc.names.lookup n==some .cell
 | _,_=>false
mutual
noncomputable def chkS(k:Ck):S→Stmt→Bool
 | .ret e,.Return (some x) _=>chkE k e x
 | .expr e,.Expr x _=>Qn x&&chkE k e x
 | .setL tg e,.Assign [.Tuple es _ _] x _=>k.calm&&Z42 k tg es&&chkE k e x&&Qn x&&N5 x
 | .set tg e,.Assign [t] x _=>J8 k tg t&&chkE k e x&&((Qn x&&(Zj0 t || N5 x)) || (Zq0 k t x&&decide (tg.length=1)) || Zu7 k t x)
 | .put o i v,.Assign [.Subscript l r _] x _=>Jx r&&Qn x&&chkE k v x&&chkE k o l&&chkE k i r
 | .ite t a b,.If x ls rs _=>chkE k t x&&noIf t&&Yk k a ls&&Yk k b rs
 | .for_ tg it b,.For t x ls [] _=>k.calm&&k.loops&&Z69 x&&J8 k tg t&&Zb1 k it x&&Yk k b ls&&itTg it t
 | .while_ t b,.While x ls [] _=>k.loops&&chkE k t x&&noIf t&&Yk k b ls
 | _,_=>false
noncomputable def Yk(k:Ck):Ss→List Stmt→Bool
 | .nil,[]=>true
 | .cons s r,x::xs=>chkS k s x&&Yk k r xs
 | _,_=>false
end
section
variable{c:Cfg}{k:Ck}{Z:DX}{w0:Vw}{X:Cx}
theorem N6{x:Expr}{t:Option Expr}{line:Nat}{env:Env}(h:Qn x=true):swapsWith x t line env=pure false:=by
 cases x<;>first | rfl | cases h
theorem N9{f:DS}{σ:L2.St}{w:Vw}{σD:DEnv}{M:Z2}{H:Hp}{R:Ends}{RR:DEnds}(S:StOk w0 w σD M σ H)(h:f RR σD M)
  (h1:∀σ' w' σD' M',Ext w w'→RS w' M'→REnv w' σD' σ'→RR.nx σD' M'→R.nx σ' w'.H) (h2:Aft w RR.rt R.rt)
  (h3:∀σ' w' σD' M',Ext w w'→RS w' M'→REnv w' σD' σ'→RR.bk σD' M'→R.bk σ' w'.H)
  (h4:∀σ' w' σD' M',Ext w w'→RS w' M'→REnv w' σD' σ'→RR.ct σD' M'→R.ct σ' w'.H):tFS w0 f R σ H:=⟨w,σD,M,RR,S,h,h1,h2,h3,h4⟩
theorem Zp7{w1:Vw}{J:L2.It}{own:Own}{xs:List D}{tg:List Nat}{body:DS}{M1:Z2}{H1:Hp}{σD:DEnv}{σ:L2.St}{RR:DEnds}{R:Ends}(S:StOk w0 w1 σD M1 σ H1)(jk:JOk w1 J own xs)
  (h:forD own xs tg body xs RR σD M1)
  (h1:∀σ' w' σD' M',Ext w1 w'→RS w' M'→REnv w' σD' σ'→RR.nx σD' M'→R.nx σ' w'.H) (h2:Aft w1 RR.rt R.rt):
  ∃W:Nat→Nat→L2.St→Hp→Prop,(∃m,W 0 m σ H1)∧∀i m σ H,W i m σ H→
   (J.stop i H∧R.nx σ H)∨(J.go i H∧∃N:L2.St→Hp→Prop,(∀σ' H',N σ' H'→∃m',m'<m∧W (i+1) m' σ' H')∧∀x H',J.yld i H x H'→gF w0 tg x σ H' fun σ2 H2=>tFS w0 body {R with nx:=N,ct:=N,bk:=R.nx} σ2 H2):=by
 refine⟨fun i m σ H=>∃w σE M,StOk w0 w σE M σ H∧Ext w1 w∧i≤xs.length∧m=xs.length - i∧forD own xs tg body (xs.drop i) RR σE M,⟨xs.length,w1,σD,M1,S,Ext.refl _,Nat.zero_le _,rfl,h⟩,?_⟩
 rintro i m σc Hc ⟨w,σE,M,S1,x1,hi,rfl,hc⟩
 have stp:∀st:Qg own xs M,_:=fun st=>jk w M x1 S1.rs st i
 rw[S1.heap] at stp
 by_cases hil:i<xs.length
 ·rw[List.drop_eq_getElem_cons hil] at hc
  obtain⟨st,hc⟩:=hc
  obtain⟨j1,j2⟩:=(stp st).1 xs[i] (List.getElem?_eq_getElem hil)
  refine .inr ⟨j1,fun σ' H'=>∃w σE M,StOk w0 w σE M σ' H'∧Ext w1 w∧i+1≤xs.length∧forD own xs tg body (xs.drop (i+1)) RR σE M,?_,fun x H' hy=>?_⟩
  ·rintro σ' H' ⟨w2,σ2,M2,S2,x2,l2,f2⟩
   exact⟨xs.length - (i+1),by omega,w2,σ2,M2,S2,x2,l2,rfl,f2⟩
  ·obtain⟨w3,rfl,x3,R3,rd3⟩:=j2 x H' hy
   refine⟨w3,σE,M,xs[i],_,⟨rfl,S1.ext.trans x3,R3,S1.env.ext x3⟩,rd3,hc,fun σ2 σE2 env2 q2=>?_⟩
   have nxt:∀σ' w' σD' M',Ext w3 w'→RS w' M'→REnv w' σD' σ'→forD own xs tg body (xs.drop (i+1)) RR σD' M'→
     ∃w σE M,StOk w0 w σE M σ' w'.H∧Ext w1 w∧i+1≤xs.length∧forD own xs tg body (xs.drop (i+1)) RR σE M:=
    fun σ' w' σD' M' x' r' e' q'=>⟨w',σD',M',⟨rfl,(S1.ext.trans x3).trans x',r',e'⟩,(x1.trans x3).trans x',hil,q'⟩
   exact N9 ⟨rfl,S1.ext.trans x3,R3,env2⟩ q2 nxt (fun v w' d M' x' r' rd' q'=>h2 v w' d M' ((x1.trans x3).trans x') r' rd' q')
    (fun σ' w' σD' M' x' r' e' q'=>h1 σ' w' σD' M' ((x1.trans x3).trans x') r' e' q') nxt
 ·rw[List.drop_eq_nil_of_le (by omega)] at hc
  obtain⟨st,hq⟩:=hc
  refine .inl ⟨(stp st).2 (by omega),?_⟩
  have:=h1 σc w σE M x1 S1.rs S1.env hq
  rw[S1.heap] at this
  exact this
theorem Zz8{o i value:Expr}{td ty tv:TE}{pos pos':Pos}(hu:X.A.units+1<cLine)(ho:PE X o td)(hi:PE X i ty)(hv:PE X value tv)(hs:swapsWith value (some (.Subscript o i pos')) pos.line X.env=pure false):
  PS X (.Assign [.Subscript o i pos'] value pos) (fun R σ H=>tv σ H fun v H1=>td σ H1 fun x H2=>ty σ H2 fun y H3=>Zx6 x y v H3 (fun H4=>R.nx σ H4)∨∃a H4,x= .ref a∧DPut H3 a y v H4∧R.nx σ H4):=by
 intro pins s σ H D I h
 refine wpAny_Assign_Subscript (thn (hv pins s σ H _ I h) fun r s1 ⟨v,H1,I1,rv,q1⟩=>thn (ho pins s1 σ H1 _ I1 q1) fun u s2 ⟨x,H2,I2,rx,q2⟩=>thn (hi pins s2 σ H2 _ I2 q2) fun iv s3 zz116=>?_) hs
 obtain⟨y,H3,I3,ry,q3⟩:=zz116
 rcases q3 with q3 | ⟨a,H4,ex,g,q3⟩
 ·exact thn (Zf4 pins s3 σ H3 x y v u iv r (fun H4=>D.nx σ H4) I3 rx ry rv q3) fun _ s4 zz117=>by obtain⟨H4,I4,q4⟩:=zz117;exact⟨σ,H4,I4,q4⟩
 ·subst ex
  obtain rfl:u=Value.ref a:=rx
  exact Z71 hu I3 g ry rv fun s4 I4=>⟨σ,H4,I4,q3⟩
end
def Gz(c:Cfg)(s:S):Prop:=∀(k:Ck) (Z:DX) (w0:Vw) (X:Cx) (st:Stmt),Good c k Z w0 X→chkS k s st=true→PS X st (tFS w0 (ts c Z s))
def Zj9(c:Cfg)(s:Ss):Prop:=∀(k:Ck) (Z:DX) (w0:Vw) (X:Cx) (st:List Stmt),Good c k Z w0 X→Yk k s st=true→PSs X st (tFS w0 (tss c Z s))
theorem Cg{k:Ck}{t x:Expr}(h:Zq0 k t x=true):∃n np el gens scope p,t= .Name n np∧x= .ListComp el gens scope p:=by
 cases t with
 | Name n np=>
  cases x with
  | ListComp el gens scope p=>exact⟨_,_,_,_,_,_,rfl,rfl⟩
  | _=>exact absurd h Bool.false_ne_true
 | _=>exact absurd h Bool.false_ne_true
theorem Cc{k:Ck}{t x:Expr}(h:Zu7 k t x=true):∃n np el gens scope p,t= .Name n np∧x= .ListComp el gens scope p∧k.sc.names.lookup n=some .cell:=by
 cases t with
 | Name n np=>
  cases x with
  | ListComp el gens scope p=>exact⟨_,_,_,_,_,_,rfl,rfl,eq_of_beq h⟩
  | _=>exact absurd h Bool.false_ne_true
 | _=>exact absurd h Bool.false_ne_true
theorem C2{k:Ck}{e:E}{el:Expr}{gens:List Comprehension}{scope:Scope}{p:Pos}(h:chkE k e (.ListComp el gens scope p)=true):
  ∃N' js tg it cd e' t iter ifs,e= .comp N' js tg it cd e'∧gens=[⟨t,iter,ifs,0⟩]:=by
 cases e with
 | comp N' js tg it cd e'=>
  obtain⟨_,_,_,_,he,h⟩:=E4 h
  cases he
  obtain⟨g,rfl,h⟩:=Wp h
  obtain⟨t,iter,ifs,as⟩:=g
  obtain⟨rfl,_⟩:=Z11 h
  exact⟨_,_,_,_,_,_,_,_,_,rfl,rfl⟩
 | _=>exact absurd h Bool.false_ne_true
theorem Ee{k:Ck}{tg:List Nat}{e:E}{st:Stmt}(h:chkS k (.setL tg e) st=true):∃es kk p x pos,st= .Assign [.Tuple es kk p] x pos∧(k.calm&&Z42 k tg es&&chkE k e x&&Qn x&&N5 x)=true:=by
 cases st with
 | Assign ts' x pos=>
  match ts',h with
  | [.Tuple es kk p],h=>exact⟨es,kk,p,x,pos,rfl,h⟩
 | _=>exact absurd h Bool.false_ne_true
theorem B0(c:Cfg)(tg:List Nat)(e:E):Gz c (.setL tg e):=by
 intro k Z w0 X st G h
 obtain⟨es,kk,p,x,pos,rfl,hs⟩:=Ee h
 simp only[Bool.and_eq_true] at hs
 obtain⟨⟨⟨⟨hc,ht⟩,he⟩,hn⟩,hu⟩:=hs
 have h1:∀t:Expr,swapsWithSole [t] x pos.line X.env=pure false:=fun t=>N6 hn
 have h2:swappedStores [.Tuple es kk p] x X.env=pure none:=by
  cases x<;>first | rfl | cases hu
 obtain⟨i1,i2,i3⟩:=G.tgs tg es ht
 refine PS.imp (Z82 (Zr c e k Z w0 X x G he).1 (Z83 (w0:=w0) (Zy4 (G.calm hc) i1 i2 i3)) (h1 _) h2 rfl) fun R σ H zz118=>?_
 obtain⟨w,σD,M,RR,S,q,q1,q2,q3,q4⟩:=zz118
 refine Y5 S q fun v w' d M' x' r' rd' q'=>?_
 obtain⟨n,rfl,ds,e1,e2,e3⟩:=Ys q'
 exact⟨w',σD,M',n,ds,_,S.next x' r',by rw[x'.K,S.K,G.eK],rd',e1,e2,e3,fun σ' σD' e' z=>q1 σ' w' σD' M' x' r' e' z⟩
theorem Z13(c:Cfg)(tg:List Nat)(e:E):Gz c (.set tg e):=by
  intro k Z w0 X st G h
  cases st with
  | Assign ts' x pos=>
   match ts',h with
   | [t],h=>
    change (_&&_)=true at h
    simp only[Bool.and_eq_true,Bool.or_eq_true,decide_eq_true_eq] at h
    obtain⟨⟨ht,he⟩,h⟩:=h
    rcases h with(⟨hc,hs⟩ | ⟨hs,hl⟩) | hs
    rotate_left 2
    ·obtain⟨n,np,el,gens,scope,p,rfl,rfl,hcell⟩:=Cc hs
     have h1:swapsWithSole [.Name n np] (.ListComp el gens scope p) pos.line X.env=pure false:=by
      have hk:X.env.kindOf n=some .cell:=by
       unfold Env.kindOf
       rw[G.sc];exact hcell
      have hk':(X.env.kindOf n==some NameKind.local)=false:=by rw[hk];rfl
      unfold swapsWithSole swapsWith
      simp only[hk',Bool.and_false,Bool.false_and]
     refine PS.imp (Z82 (Zr c e k Z w0 X _ G he).1 (G.tgt tg _ ht) h1 rfl rfl) fun R σ H zz119=>?_
     obtain⟨w,σD,M,RR,S,q,q1,q2,q3,q4⟩:=zz119
     refine Y5 S q fun v w' d M' x' r' rd' q'=>?_
     exact⟨w',σD,M',d,_,S.next x' r',rd',q',fun σ' σD' e' z=>q1 σ' w' σD' M' x' r' e' z⟩
    ·have h1:swapsWithSole [t] x pos.line X.env=pure false:=N6 hc
     have h2:swappedStores [t] x X.env=pure none:=by
      cases t with
      | Name n p=>cases x<;>rfl
      | Tuple es kk p=>
       have:N5 x=true:=hs.resolve_left (by simp[Zj0])
       cases x<;>first | rfl | cases this
      | _=>exact absurd ht Bool.false_ne_true
     have h3:(assignEach [t] X.env).map (·.2)=[assign t X.env]:=by
      cases t with
      | Name n p=>rfl
      | Tuple es kk p=>rfl
      | _=>exact absurd ht Bool.false_ne_true
     refine PS.imp (Z82 (Zr c e k Z w0 X x G he).1 (G.tgt tg t ht) h1 h2 h3) fun R σ H zz120=>?_
     obtain⟨w,σD,M,RR,S,q,q1,q2,q3,q4⟩:=zz120
     refine Y5 S q fun v w' d M' x' r' rd' q'=>?_
     exact⟨w',σD,M',d,_,S.next x' r',rd',q',fun σ' σD' e' z=>q1 σ' w' σD' M' x' r' e' z⟩
    ·match tg,hl,ht with
     | [i],_,ht=>
      obtain⟨n,np,el,gens,scope,p,rfl,rfl⟩:=Cg hs
      obtain⟨N',js,tg,it,cd,e,t2,iter,ifs,rfl,rfl⟩:=C2 he
      change (_&&_)=true at he
      simp only[Bool.and_eq_true,decide_eq_true_eq] at he
      obtain⟨⟨⟨⟨⟨⟨⟨⟨h1,h2⟩,h3⟩,h4⟩,h5⟩,h6⟩,h7⟩,h8⟩,h9⟩:=he
      change (_&&_)=true at ht
      simp only[Bool.and_eq_true,beq_iff_eq] at ht
      simp only[Zq0,Bool.and_eq_true,beq_iff_eq,Bool.not_eq_true'] at hs
      obtain⟨⟨⟨s1,s2⟩,s3⟩,s4⟩:=hs
      have hl':X.env.scope.names.lookup n=some .local:=by
       unfold Ck.loc at s2
       rw[G.sc];exact eq_of_beq s2
      have hsw:swapsWith (.ListComp el [⟨t2,iter,ifs,0⟩] scope p) (some (.Name n np)) pos.line X.env=pure true:=by
       unfold swapsWith
       have hb:(X.env.blockKind==ScopeKind.function)=true:=by
        unfold Env.blockKind
        rw[G.sc,s1];rfl
       have hk:(X.env.kindOf n==some NameKind.local)=true:=by
        unfold Env.kindOf
        rw[hl'];rfl
       have hp:(np.line==(Expr.ListComp el [⟨t2,iter,ifs,0⟩] scope p).pos.line)=true:=by
        show(np.line==p.line)=true
        rw[s3];simp
       simp only[hb,hk,hp,s4,Bool.not_false,Bool.and_self]
      refine PS.imp ((Qz G h1 h2 h3 h5 (Z70 c it k Z w0 X t2 iter G h4 h9) h6 h7 h8 (Zr c e) (Qy c cd)).2 i n np pos (by rw[G.N];exact ht.1) hl' hsw) fun R σ H zz121=>?_
      obtain⟨w,σD,M,RR,S,q,q1,q2,q3,q4⟩:=zz121
      have q:te c Z (.comp N' js tg it cd e) σD M fun d M1=>RR.nx (σD.set i (some d)) M1:=q
      refine Y5 S q fun v w' d M' x' r' rd' q'=>?_
      exact q1 _ w' _ M' x' r' ((S.env.ext x').set i rd') q'
     | [],hl,_=>simp at hl
     | _::_::_,hl,_=>simp at hl
   | [],h=>exact absurd h Bool.false_ne_true
   | _::_::_,h=>exact absurd h Bool.false_ne_true
  | _=>exact absurd h Bool.false_ne_true
theorem Z48(c:Cfg)(o i v:E):Gz c (.put o i v):=by
  intro k Z w0 X st G h
  cases st with
  | Assign ts' x pos=>
   match ts',h with
   | [t],h=>
    cases t with
    | Subscript l r p=>
     change (_&&_)=true at h
     simp only[Bool.and_eq_true] at h
     obtain⟨⟨⟨⟨h1,h2⟩,h3⟩,h4⟩,h5⟩:=h
     refine PS.imp (Zz8 (by have:=G.units;omega) (Zr c o k Z w0 X l G h4).1 (Zr c i k Z w0 X r G h5).1 (Zr c v k Z w0 X x G h3).1 (N6 h2)) fun R σ H zz122=>?_
     obtain⟨w,σD,M,RR,S,q,q1,q2,q3,q4⟩:=zz122
     refine Y5 S q fun vv w1 dv M1 x1 r1 rd1 z1=>?_
     refine Y5 (S.next x1 r1) z1 fun vo w2 dob M2 x2 r2 rd2 z2=>?_
     refine Y5 ((S.next x1 r1).next x2 r2) z2 fun vi w3 di M3 x3 r3 rd3 z3=>?_
     split at z3
     ·obtain⟨hn,rfl⟩:=Zp.mp (rd2.ext x3)
      rcases z3 with⟨xs,kk,j,rfl,y1,y2,y3⟩ | ⟨kvs,kk,y1,y2,y3,y4⟩
      ·cases Zg.mp rd3
       obtain⟨hn,vs,u1,u2⟩:=r3.list y1
       obtain⟨t1,t2⟩:=Xc r3 hn u1 (u2.set (rd1.ext (x2.trans x3)) j)
       exact .inl ⟨_,vs,kk,j,rfl,rfl,u1,by rw[u2.length];exact y2,q1 σ _ σD _ (((x1.trans x2).trans x3).trans t1) t2 (S.env.ext (((x1.trans x2).trans x3).trans t1)) y3⟩
      ·obtain⟨hn,vs,u1,u2⟩:=r3.dict y1
       cases Ou y2 rd3
       obtain⟨t1,t2⟩:=Ph r3 hn u1 (u2.put (k:=kk) (rd1.ext (x2.trans x3)))
       exact .inr ⟨_,_,rfl,DPut.k (k:=kk) u1 (by rw[u2.length];exact y3),q1 σ _ σD _ (((x1.trans x2).trans x3).trans t1) t2 (S.env.ext (((x1.trans x2).trans x3).trans t1)) y4⟩
     ·exact z3.elim
    | _=>exact absurd h Bool.false_ne_true
   | [],h=>exact absurd h Bool.false_ne_true
   | a::b::r,h=>cases a<;>exact absurd h Bool.false_ne_true
  | _=>exact absurd h Bool.false_ne_true
mutual
theorem Zx5(c:Cfg):∀s:S,Gz c s
 | .ret e,k,Z,w0,X,st,G,h=>by
  cases st with
  | Return v pos=>
   cases v with
   | some x=>exact PS.imp (Y06 (Zr c e k Z w0 X x G h).1) fun R σ H zz123=>by obtain⟨w,σD,M,RR,S,q,h1,h2,h3,h4⟩:=zz123;exact Y5 S q h2
   | none=>exact absurd h Bool.false_ne_true
  | _=>exact absurd h Bool.false_ne_true
 | .expr e,k,Z,w0,X,st,G,h=>by
  cases st with
  | Expr x pos=>
   change (_&&_)=true at h
   simp only[Bool.and_eq_true] at h
   exact PS.imp (Zm9 (Zr c e k Z w0 X x G h.2).1 (N6 h.1)) fun R σ H zz124=>by obtain⟨w,σD,M,RR,S,q,h1,h2,h3,h4⟩:=zz124;exact Y5 S q fun v w' d M' x' r' rd' q'=>h1 σ w' σD M' x' r' (S.env.ext x') q'
  | _=>exact absurd h Bool.false_ne_true
 | .setL tg e,k,Z,w0,X,st,G,h=>B0 c tg e k Z w0 X st G h
 | .set tg e,k,Z,w0,X,st,G,h=>Z13 c tg e k Z w0 X st G h
 | .put o i v,k,Z,w0,X,st,G,h=>Z48 c o i v k Z w0 X st G h
 | .ite t a b,k,Z,w0,X,st,G,h=>by
  cases st with
  | If x ls rs pos=>
   change (_&&_)=true at h
   simp only[Bool.and_eq_true] at h
   obtain⟨⟨⟨h1,h2⟩,h3⟩,h4⟩:=h
   refine PS.imp (Y23 ((Zr c t k Z w0 X x G h1).2 h2) (S3 c a k Z w0 X ls G h3) (S3 c b k Z w0 X rs G h4)) fun R σ H zz125=>?_
   obtain⟨w,σD,M,RR,S,q,q1,q2,q3,q4⟩:=zz125
   refine⟨w,σD,M,_,S,q,fun z w1 M1 x1 r1 y1=>?_⟩
   have fin:∀{f:DS},f RR σD M1→tFS w0 f R σ w1.H:=fun hf=>N9 (S.next x1 r1) hf (fun σ' w' σD' M' x' r' e' z=>q1 σ' w' σD' M' (x1.trans x') r' e' z) (q2.ext x1)
    (fun σ' w' σD' M' x' r' e' z=>q3 σ' w' σD' M' (x1.trans x') r' e' z) (fun σ' w' σD' M' x' r' e' z=>q4 σ' w' σD' M' (x1.trans x') r' e' z)
   cases z with
   | true=>
    rw[if_pos rfl] at y1
    show if (true:Bool)=true then _ else _
    rw[if_pos rfl];exact fin y1
   | false=>
    rw[if_neg Bool.false_ne_true] at y1
    show if (false:Bool)=true then _ else _
    rw[if_neg Bool.false_ne_true];exact fin y1
  | _=>exact absurd h Bool.false_ne_true
 | .for_ tg it b,k,Z,w0,X,st,G,h=>by
  cases st with
  | For t x ls els pos=>
   cases els with
   | nil=>
    change (_&&_)=true at h
    simp only[Bool.and_eq_true] at h
    obtain⟨⟨⟨⟨⟨⟨h1,h2⟩,h3⟩,h4⟩,h5⟩,h6⟩,h7⟩:=h
    have hf:∀v,foldedSetIterable x X.env v=pure v:=by
     intro v
     cases x<;>first | rfl | cases h3
    refine PS.imp (Zy5 (G.po h2) (G.calm h1) (Z70 c it k Z w0 X t x G h5 h7) (G.tgt tg t h4) (S3 c b k Z w0 X ls G h6) hf) fun R σ H zz126=>?_
    obtain⟨w,σD,M,RR,S,q,q1,q2,q3,q4⟩:=zz126
    refine⟨w,σD,M,_,S,q,fun J w1 own xs M1 x1 r1 jk z=>?_⟩
    exact Zp7 (S.next x1 r1) jk z (fun σ' w' σD' M' x' r' e' z=>q1 σ' w' σD' M' (x1.trans x') r' e' z) (q2.ext x1)
   | cons _ _=>exact absurd h Bool.false_ne_true
  | _=>exact absurd h Bool.false_ne_true
 | .while_ t b,k,Z,w0,X,st,G,h=>by
  cases st with
  | While x ls els pos=>
   cases els with
   | nil=>
    change (_&&_)=true at h
    simp only[Bool.and_eq_true] at h
    obtain⟨⟨⟨h1,h2⟩,h3⟩,h4⟩:=h
    refine PS.imp (Z89 (G.po h1) ((Zr c t k Z w0 X x G h2).2 h3) (S3 c b k Z w0 X ls G h4)) fun R σ H zz127=>?_
    obtain⟨w,σD,M,RR,S,q,q1,q2,q3,q4⟩:=zz127
    obtain⟨W,⟨m0,hm0⟩,step⟩:=q
    refine⟨fun m σ H=>∃w2 σE M2,StOk w0 w2 σE M2 σ H∧Ext w w2∧W m σE M2,⟨m0,w,σD,M,S,Ext.refl w,hm0⟩,?_⟩
    rintro m σ2 H2 ⟨w2,σE,M2,S2,x2,hW⟩
    refine⟨w2,σE,M2,_,S2,step m σE M2 hW,fun z w3 M3 x3 r3 y3=>?_⟩
    cases z with
    | false=>
     rw[if_neg Bool.false_ne_true] at y3 ⊢
     exact q1 σ2 w3 σE M3 (x2.trans x3) r3 (S2.env.ext x3) y3
    | true=>
     rw[if_pos rfl] at y3 ⊢
     have nxt:∀σ' w' σD' M',Ext w3 w'→RS w' M'→REnv w' σD' σ'→(∃m',m'<m∧W m' σD' M')→∃m',m'<m∧∃w2 σE M2,StOk w0 w2 σE M2 σ' w'.H∧Ext w w2∧W m' σE M2:=
      fun σ' w' σD' M' x' r' e' zz128=>by obtain⟨m',l',z'⟩:=zz128;exact⟨m',l',w',σD',M',⟨rfl,(S2.ext.trans x3).trans x',r',e'⟩,(x2.trans x3).trans x',z'⟩
     refine⟨fun σ' H'=>∃m',m'<m∧∃w2 σE M2,StOk w0 w2 σE M2 σ' H'∧Ext w w2∧W m' σE M2,fun σ' H' z=>z,?_⟩
     exact N9 (S2.next x3 r3) y3 nxt (fun v w' d M' x' r' rd' z'=>q2 v w' d M' ((x2.trans x3).trans x') r' rd' z') (fun σ' w' σD' M' x' r' e' z'=>q1 σ' w' σD' M' ((x2.trans x3).trans x') r' e' z') nxt
   | cons _ _=>exact absurd h Bool.false_ne_true
  | _=>exact absurd h Bool.false_ne_true
theorem S3(c:Cfg):∀s:Ss,Zj9 c s
 | .nil,k,Z,w0,X,st,G,h=>by
  cases st with
  | nil=>
   refine PSs.imp Zp3 fun R σ H zz129=>?_
   obtain⟨w,σD,M,RR,S,q,h1,_⟩:=zz129
   have:=h1 σ w σD M (Ext.refl w) S.rs S.env q
   rw[S.heap] at this
   exact this
  | cons _ _=>exact absurd h Bool.false_ne_true
 | .cons s r,k,Z,w0,X,st,G,h=>by
  cases st with
  | nil=>exact absurd h Bool.false_ne_true
  | cons x xs=>
   change (_&&_)=true at h
   simp only[Bool.and_eq_true] at h
   refine PSs.imp (Z95 (Zx5 c s k Z w0 X x G h.1) (S3 c r k Z w0 X xs G h.2)) fun R σ H zz130=>?_
   obtain⟨w,σD,M,RR,S,q,h1,h2,h3,h4⟩:=zz130
   refine N9 S q ?_ h2 h3 h4
   intro σ' w' σD' M' x' r' e' q'
   exact N9 ⟨rfl,S.ext.trans x',r',e'⟩ q' (fun σ2 w2 σD2 M2 x2 r2 e2 z=>h1 σ2 w2 σD2 M2 (x'.trans x2) r2 e2 z) (h2.ext x') (fun σ2 w2 σD2 M2 x2 r2 e2 z=>h3 σ2 w2 σD2 M2 (x'.trans x2) r2 e2 z) (fun σ2 w2 σD2 M2 x2 r2 e2 z=>h4 σ2 w2 σD2 M2 (x'.trans x2) r2 e2 z)
end
theorem FnOk.cx{P:Program}{w:World}{K:PySem.W.Frag}{mg:Str→Option Value}{base:Heap}{CX:CXT}{k:Nat}{f:Addr}{fd:FuncData}{ps:List Str}{sp:Sp}(F:FnOk P w K mg base CX0 k f fd ps sp):FnOk P w K mg base CX k f fd ps sp:=
 ⟨F.len,fun A outer s H args us vs Q E hr he hb hv hs=>codeAny_mono (F.run A outer s H args us vs Q E hr he hb hv hs) fun r s' h=>by
  cases r with
  | error e=>exact False.elim h
  | ok fl=>cases fl<;>exact h⟩
structure Prg(P:Program)(w:World)(K:PySem.W.Frag)(mg:Str→Option Value)(base:Heap)(c:Cfg)(FN GN BN:List Str)(lv:Nat):Prop where
 hK:c.K=K
 fns:∀(f:Nat) (x:Str) (sp:DSp),FN[f]?=some x→c.Γ[f]?=some sp→∃(kk:Nat) (f:Addr) (fd:FuncData) (ps:List Str) (ds:List Value) (dvs:List V) (dD:List D) (sp0:DSp),FnOk P w K mg base (CX1 P w) kk f fd ps (spF K sp0)∧kk≤lv∧mg x=some (.ref f)∧PySem.W.keepIn K (.ref f)=true∧
  Ye K fd ps ds∧Vals dvs ds∧(∀w:Vw,w.K=K→RDs w dD dvs)∧∀as M Q Z,sp as M Q Z→sp0 (as++dD) M Q Z
 flen:FN.length=c.Γ.length
 glb:∀(g:Nat) (x:Str) (d:D),GN[g]?=some x→c.G[g]?=some d→∃v u,mg x=some u∧RelV v u∧∀w:Vw,w.K=K→RD w d v
 blt:∀x,x∈BN→mg x=none
noncomputable def start0(N:List Str)(ds:List D):DEnv:=ds.map some++List.replicate (N.length - ds.length) none
theorem Z21{w:Vw}{N:List Str}{ds:List D}{vs:List V}(r:RDs w ds vs):REnv w (start0 N ds) (L2.start N vs):=by
 refine⟨by unfold start0 L2.start;simp[r.length],fun i d e=>?_⟩
 unfold start0 at e
 unfold L2.start
 by_cases hi:i<ds.length
 ·rw[List.getElem?_append_left (by simpa using hi),List.getElem?_map] at e
  rw[List.getElem?_append_left (by rw[List.length_map,r.length];exact hi),List.getElem?_map]
  cases hd:ds[i]? with
  | none=>rw[hd] at e;cases e
  | some d'=>
   rw[hd] at e
   have e':d'=d:=by simpa using e
   subst e'
   obtain⟨v,q1,q2⟩:=r.get hd
   exact⟨v,by rw[q1];rfl,q2⟩
 ·rw[List.getElem?_append_right (by simpa using hi)] at e
  have:=List.getElem?_eq_some_iff.mp e
  simp at this
section
variable{P:Program}{w:World}{K:PySem.W.Frag}{mg:Str→Option Value}{base:Heap}{c:Cfg}{FN GN BN:List Str}{lv:Nat}{x qual:Str}{st:Stmt}{f:Addr}{fd:FuncData}{N ps:List Str}
noncomputable abbrev ck0(N:List Str)(st:Stmt)(FN GN BN:List Str):Ck:=⟨N,Z3 st,FN,GN,BN,true,true,true,[],true,[]⟩
theorem fn0(Pr:Prg P w K mg base c FN GN BN lv)(F:Fun K x qual st f fd)(S:FnScope N ps (Z3 st)){body:Ss}(hc:Yk (ck0 N st FN GN BN) body (Z5 st)=true){sp:DSp}(hl:∀ds M Q Z,sp ds M Q Z→ds.length=ps.length)
  (hb:∀ds M Q Z,sp ds M Q Z→tss c noX body {nx:=fun _ M=>Q .non M,rt:=Q} (start0 N ds) M):FnOk P w K mg base (CX1 P w) (lv+1) f fd ps (spF K sp):=by
 refine FnOk.cx (F.ok S (fun vs H Q E h=>?_) fun cdv A outer s H vs Q E hr h=>?_)
 ·obtain⟨w,ds,M,QD,Z,_,_,_,r,h,_⟩:=h
  rw[r.length];exact hl _ _ _ _ h
 obtain⟨w',ds,M,QD,Z,hK',rfl,R,r,h,a,xk⟩:=h
 have G:Good c (ck0 N st FN GN BN) noX w' (cxOf CX0 P w K mg base N qual (Z3 st) f cdv A outer s w'.H E).nox:=
  {hK:=Pr.hK.symm
   wK:=hK'.trans Pr.hK.symm
   N:=rfl
   nd:=S.nd
   sc:=rfl
   calm:=fun _=>rfl
   units:=hr.units
   fns:=fun _ f x sp h1 h2=>by
    obtain⟨kk,f,fd,ps,ds,dvs,dD,sp0,F,hk,h⟩:=Pr.fns f x sp h1 h2
    exact⟨kk,f,fd,ps,ds,dvs,dD,sp0,F,hr.mono hk,h⟩
   flen:=Pr.flen
   glb:=Pr.glb
   blt:=Pr.blt
   exc:=⟨E0,fun _ _ _ _ _ _ _ h=>by
    obtain⟨_,_,_,_,_,_,_,_,_,_,_,_,_,_,_,h⟩:=h
    exact h.elim,fun cls dd H' h=>by
    obtain⟨_,_,_,_,_,_,_,_,_,_,_,_,_,h⟩:=h
    exact h.elim⟩
   stk:=fun _=>⟨rfl,rfl⟩
   po:=fun _=>PassesOwn.never
   fnc:=fun _ _=>rfl
   fno:=fun _ h=>by cases h}
 refine⟨_,S3 c body _ _ w' _ _ G hc,w',start0 N ds,M,{nx:=fun _ M=>QD .non M,rt:=QD},⟨rfl,Ext.refl w',R,Z21 r⟩,hb _ _ _ _ h,?_,a,?_,?_⟩
 ·exact fun σ' w2 σD' M' x' r' e' q'=>a .non w2 .non M' x' r' (Yi.mpr rfl) q'
 ·exact fun σ' w2 σD' M' x' r' e' q'=>q'.elim
 ·exact fun σ' w2 σD' M' x' r' e' q'=>q'.elim
end
def Er:DSp:=fun ds M Q _=>∃ns:List Int,ds=[.ref 0]∧M=[.frz (ns.map .int)]∧ns.length≤63∧(∀i∈ns,Bits bigN i)∧∀M',Q (.bl true) M'
theorem Gu(w:Vw):∀ns:List Int,RDs w (ns.map .int) (ns.map V.int)
 | []=>RDs.nil w
 | _::r=>RDs.cons (Zg.mpr rfl) (Gu w r)
theorem Zf7{l:PySem.W.OpenLaw}{k:Nat}{q:Program}{loose:List Str}{XP:(Str→Option Value)→Heap→Prop}{YP:World→Heap→Prop}{d:DefRec}{K:Params→PySem.W.Frag}{x:Str}(hn:l.most=some 63)(hdf:d.params.defaults=[])(hr:Room k callerA)
  (hY:∀(w:World) (h:Heap),YP w h→(K w.params).In h)
  (F:∀(w:World) (mg:Str→Option Value) (fa:Addr) (h:Heap),(K w.params).In h→h.Ns mainGlobals mg→mg d.name=some (.ref fa)→
   ∃fd:FuncData,(∀(s:Shared) (u:Value),BindsTo s fd ⟨[u],[]⟩ [(x,u)])∧∀base:Heap,(K w.params).In base→base.Ns mainGlobals mg→FnOk l.prog w (K w.params) mg base (CX1 l.prog w) k fa fd [x] (spF (K w.params) Er)):
  PySem.W.WalkO q loose XP YP l.row.toRowW d [] (fun f vs=>PySem.call f vs):=by
 refine Y10 (n:=63) (k:=k) (x:=x) (CX:=fun w=>CX1 l.prog w) (sp:=fun w=>spF (K w.params) Er) hn (by decide) hdf hr hY F (fun w H a ns hl hb hO hS=>?_) fun w H s e s' h=>?_
 ·have hF:SqF (K w.params) H a (ns.map V.int):=by
   rcases hS with(h | ⟨o,h⟩) | h
   ·rcases hO a with z | ⟨o,xs,z⟩
    ·rw[z] at h;cases h
    ·rw[z] at h;cases h
   ·exact .inl ⟨o,h⟩
   ·exact .inr (.inr h)
  refine⟨⟨K w.params,H,fun _=>a,1⟩,[.ref 0],[.frz (ns.map .int)],fun d _=>d= .bl true,noX,rfl,rfl,⟨rfl,fun i j ci cj ei ej mi mj _=>?_,fun i c' e=>?_⟩,RDs.cons (Zp.mpr ⟨Nat.one_pos,rfl⟩) (RDs.nil _),⟨ns,rfl,rfl,hl,hb,fun _=>rfl⟩,fun v w' d M' _ _ rd e=>?_,fun cls dd H' h=>?_⟩
  ·have h1:=(List.getElem?_eq_some_iff.mp ei).1
   have h2:=(List.getElem?_eq_some_iff.mp ej).1
   simp at h1 h2
   omega
  ·have h1:=(List.getElem?_eq_some_iff.mp e).1
   have hi:i=0:=by simp at h1;exact h1
   subst hi
   simp at e
   subst e
   exact⟨_,hF,Gu _ ns⟩
  ·subst e
   exact Xw.mp rd
  ·obtain⟨_,_,_,_,_,_,_,_,_,_,_,_,_,h⟩:=h
   exact h.elim
 ·obtain⟨_,_,_,_,_,_,_,_,_,_,_,_,_,_,_,h⟩:=h
  exact h.elim
def bot:DSp:=fun _ _ _ _=>False
def Ent(K:PySem.W.Frag)(mg:Str→Option Value)(x:Str):Prop:=∃(f:Addr) (fd:FuncData) (ps:List Str),mg x=some (.ref f)∧PySem.W.keepIn K (.ref f)=true∧Ye K fd ps []
section
variable{P:Program}{w:World}{K:PySem.W.Frag}{mg:Str→Option Value}{base:Heap}{Γ:List DSp}{G:List D}{FN GN BN:List Str}{lv:Nat}
theorem Prg.zero(hF:∀x∈FN,Ent K mg x)(hl:FN.length=Γ.length)(hb:∀sp∈Γ,sp=bot)(hg:∀(g:Nat) (x:Str) (d:D),GN[g]?=some x→G[g]?=some d→∃v u,mg x=some u∧RelV v u∧∀w:Vw,w.K=K→RD w d v)(hB:∀x∈BN,mg x=none):
  Prg P w K mg base ⟨K,Γ,G⟩ FN GN BN 0 where
 hK:=rfl
 fns:=fun f x sp h1 h2=>by
  obtain⟨fa,fd,ps,e1,e2,e3⟩:=hF x (List.mem_of_getElem? h1)
  have hs:sp=bot:=hb sp (List.mem_of_getElem? h2)
  subst hs
  have no:∀vs H Q E,¬spF K bot vs H Q E:=fun vs H Q E zz131=>by obtain⟨_,_,_,_,_,_,_,_,_,h,_⟩:=zz131;exact h
  exact⟨0,fa,fd,ps,[],[],[],bot,⟨fun vs H Q E h=>absurd h (no vs H Q E),fun A outer s H args us vs Q E _ _ _ _ h=>absurd h (no vs H Q E)⟩,Nat.le_refl _,e1,e2,e3,.nil,fun w _=>RDs.nil w,fun _ _ _ _ h=>h.elim⟩
 flen:=hl
 glb:=hg
 blt:=hB
theorem Prg.add(Pr:Prg P w K mg base ⟨K,Γ,G⟩ FN GN BN lv)(n:Nat){x:Str}{sp:DSp}{kk lv':Nat}{f:Addr}{fd:FuncData}{ps:List Str}(hx:FN[n]?=some x)(F:FnOk P w K mg base (CX1 P w) kk f fd ps (spF K sp))(h1:kk≤lv')(h2:lv≤lv')(hm:mg x=some (.ref f))(hk:PySem.W.keepIn K (.ref f)=true)(hb:Ye K fd ps []):
  Prg P w K mg base ⟨K,Γ.set n sp,G⟩ FN GN BN lv' where
 hK:=rfl
 fns:=fun m y sp' e1 e2=>by
  by_cases hmn:n=m
  ·subst hmn
   rw[hx] at e1
   cases e1
   have hl:n<Γ.length:=by rw[←Pr.flen];exact(List.getElem?_eq_some_iff.mp hx).1
   have e2:(Γ.set n sp)[n]?=some sp':=e2
   rw[List.getElem?_set_self hl] at e2
   cases e2
   exact⟨kk,f,fd,ps,[],[],[],sp,F,h1,hm,hk,hb,.nil,fun w _=>RDs.nil w,fun as M Q Z h=>by rw[List.append_nil];exact h⟩
  ·have e2:(Γ.set n sp)[m]?=some sp':=e2
   rw[List.getElem?_set_ne hmn] at e2
   obtain⟨kk,f,fd,ps,ds,dvs,dD,sp0,F,hk,h⟩:=Pr.fns m y sp' e1 e2
   exact⟨kk,f,fd,ps,ds,dvs,dD,sp0,F,Nat.le_trans hk h2,h⟩
 flen:=by rw[Pr.flen];simp
 glb:=Pr.glb
 blt:=Pr.blt
end
theorem Z7{M N:Z2}{a:Nat}{xs:List D}(h:Zf M a=some xs):Zf (M++N) a=some xs:=by
 unfold Zf at *
 have ha:a<M.length:=by
  cases e:M[a]? with
  | none=>rw[e] at h;cases h
  | some c=>exact(List.getElem?_eq_some_iff.mp e).1
 rw[List.getElem?_append_left ha];exact h
theorem Z8{M N:Z2}{a:Nat}{xs:List D}(h:Z4 M a=some xs):Z4 (M++N) a=some xs:=by
 unfold Z4 at *
 have ha:a<M.length:=by
  cases e:M[a]? with
  | none=>rw[e] at h;cases h
  | some c=>exact(List.getElem?_eq_some_iff.mp e).1
 rw[List.getElem?_append_left ha];exact h
theorem Z47{M N:Z2}{a:Nat}{xs:List (Key×D)}(h:W8 M a=some xs):W8 (M++N) a=some xs:=by
 unfold W8 at *
 have ha:a<M.length:=by
  cases e:M[a]? with
  | none=>rw[e] at h;cases h
  | some c=>exact(List.getElem?_eq_some_iff.mp e).1
 rw[List.getElem?_append_left ha];exact h
theorem Z00(M:Z2)(c:Cell)(N:Z2):(M++c::N)[M.length]?=some c:=by simp
theorem Zk2(M N:Z2)(k:Nat):(M++N)[M.length+k]?=N[k]?:=by rw[List.getElem?_append_right (by omega)];congr 1;omega
theorem Zj(M:Z2)(xs:List D)(N:Z2):Zf (M++ .lst xs::N) M.length=some xs:=by unfold Zf;rw[Z00]
theorem Z6(M:Z2)(xs:List D)(N:Z2):Z4 (M++ .lst xs::N) M.length=some xs:=by unfold Z4;rw[Z00]
theorem Z29(M:Z2)(xs:List (Key×D))(N:Z2):W8 (M++ .dct xs::N) M.length=some xs:=by unfold W8;rw[Z00]
theorem Xn(M N:Z2)(k:Nat):Z4 (M++N) (M.length+k)=Z4 N k:=by unfold Z4;rw[Zk2]
theorem Z0{M:Z2}{n:Nat}{xs:List D}(h:Z4 M n=some xs):Zf M n=some xs:=Zp0 h
theorem Vg{M:Z2}{a b:Nat}{c:Cell}(h:b≠a):Zf (M.set b c) a=Zf M a:=by unfold Zf;rw[List.getElem?_set_ne h]
theorem Zb{M:Z2}{a b:Nat}{c:Cell}(h:b≠a):Z4 (M.set b c) a=Z4 M a:=by unfold Z4;rw[List.getElem?_set_ne h]
theorem J0{lo:Int}{n i:Nat}(h:i<n):(Qj lo n)[i]?=some (.int (lo+i)):=by
 unfold Qj;rw[List.getElem?_map,List.getElem?_range h];rfl
theorem W6(lo:Int)(n:Nat):(Qj lo n).length=n:=by unfold Qj;simp
theorem Sd{own:Own}{xs:List D}{tg:List Nat}{body:DS}{R:DEnds}{σ:DEnv}{M:Z2}(I:Nat→DEnv→Z2→Prop)(h0:I 0 σ M)(hs:∀i σ M,i≤xs.length→I i σ M→Qg own xs M)
  (step:∀(i:Nat) (d:D) σ M (C:DEnv→Z2→Prop),xs[i]?=some d→I i σ M→(∀σ2 M2,I (i+1) σ2 M2→C σ2 M2)→tgD tg d σ fun σ'=>body {nx:=C,rt:=R.rt,bk:=R.nx,ct:=C} σ' M)
  (fin:∀σ M,I xs.length σ M→R.nx σ M):forD own xs tg body xs R σ M:=by
 have key:∀(j:Nat) σ M,j≤xs.length→I (xs.length - j) σ M→forD own xs tg body (xs.drop (xs.length - j)) R σ M:=by
  intro j
  induction j with
  | zero=>
   intro σ M _ h
   rw[Nat.sub_zero] at h ⊢
   rw[List.drop_length]
   exact⟨hs _ σ M (Nat.le_refl _) h,fin σ M h⟩
  | succ j ih=>
   intro σ M hj h
   have hi:xs.length - (j+1)<xs.length:=by omega
   have e:xs.length - (j+1)+1=xs.length - j:=by omega
   rw[List.drop_eq_getElem_cons hi]
   refine⟨hs _ σ M (by omega) h,step _ _ σ M _ (List.getElem?_eq_getElem hi) h fun σ2 M2 h2=>?_⟩
   rw[e] at h2 ⊢
   exact ih σ2 M2 (by omega) h2
 have:=key xs.length σ M (Nat.le_refl _) (by rw[Nat.sub_self];exact h0)
 rw[Nat.sub_self] at this
 exact this
theorem Om{lo:Int}{n:Nat}{tg:List Nat}{body:DS}{R:DEnds}{σ:DEnv}{M:Z2}(I:Nat→DEnv→Z2→Prop)(h0:I 0 σ M)
  (step:∀(i:Nat) σ M (C:DEnv→Z2→Prop),i<n→I i σ M→(∀σ2 M2,I (i+1) σ2 M2→C σ2 M2)→tgD tg (.int (lo+i)) σ fun σ'=>body {nx:=C,rt:=R.rt,bk:=R.nx,ct:=C} σ' M)
  (fin:∀σ M,I n σ M→R.nx σ M):forD .no (Qj lo n) tg body (Qj lo n) R σ M:=by
 refine Sd I h0 (fun _ _ _ _ _=>trivial) (fun i d σ M C hd hI hC=>?_) (fun σ M h=>fin σ M (by rw[W6] at h;exact h))
 have hi:i<n:=by
  have:=(List.getElem?_eq_some_iff.mp hd).1
  rwa[W6] at this
 rw[J0 hi] at hd
 cases hd
 exact step i σ M C hi hI hC
theorem Tn{own:Own}{xs:List D}{tg:List Nat}{cd:DT}{el:DE}{z:Nat}{Q:Z2→Prop}{σ:DEnv}{M:Z2}(I:Nat→DEnv→Z2→Prop)(h0:I 0 σ M)(hs:∀i σ M,i≤xs.length→I i σ M→Qg own xs M)
  (step:∀(i:Nat) (d:D) σ M (C:DEnv→Z2→Prop),xs[i]?=some d→I i σ M→(∀σ2 M2,I (i+1) σ2 M2→C σ2 M2)→tgD tg d σ fun σ'=>cd σ' M fun b M1=>if b=true then
   el σ' M1 fun y M2=>∃acc,Z4 M2 z=some acc∧acc.length<sizeLine∧C σ' (M2.set z (.lst (acc++[y]))) else C σ' M1)
  (fin:∀σ M,I xs.length σ M→Q M):N0 own xs tg cd el z xs σ M Q:=by
 have key:∀(j:Nat) σ M,j≤xs.length→I (xs.length - j) σ M→N0 own xs tg cd el z (xs.drop (xs.length - j)) σ M Q:=by
  intro j
  induction j with
  | zero=>
   intro σ M _ h
   rw[Nat.sub_zero] at h ⊢
   rw[List.drop_length]
   exact⟨hs _ σ M (Nat.le_refl _) h,fin σ M h⟩
  | succ j ih=>
   intro σ M hj h
   have hi:xs.length - (j+1)<xs.length:=by omega
   have e:xs.length - (j+1)+1=xs.length - j:=by omega
   rw[List.drop_eq_getElem_cons hi]
   refine⟨hs _ σ M (by omega) h,step _ _ σ M (fun σ2 M2=>N0 own xs tg cd el z (xs.drop (xs.length - (j+1)+1)) σ2 M2 Q) (List.getElem?_eq_getElem hi) h fun σ2 M2 h2=>?_⟩
   rw[e] at h2 ⊢
   exact ih σ2 M2 (by omega) h2
 have:=key xs.length σ M (Nat.le_refl _) (by rw[Nat.sub_self];exact h0)
 rw[Nat.sub_self] at this
 exact this
theorem Pw{c:Cfg}{X:DX}{t:E}{b:Ss}{R:DEnds}{σ:DEnv}{M:Z2}(I:DEnv→Z2→Prop)(μ:DEnv→Z2→Nat)(h0:I σ M)
  (step:∀σ M,I σ M→tt c X t σ M fun r M1=>if r=true then tss c X b {nx:=fun σ2 M2=>I σ2 M2∧μ σ2 M2<μ σ M,rt:=R.rt,bk:=R.nx,ct:=fun σ2 M2=>I σ2 M2∧μ σ2 M2<μ σ M} σ M1 else R.nx σ M1):
  ts c X (.while_ t b) R σ M:=by
 refine⟨fun m σ M=>m=μ σ M∧I σ M∧True,⟨_,rfl,h0,trivial⟩,?_⟩
 rintro m σ M ⟨rfl,hI,_⟩
 have e:∀σ0 M0,(fun(σ2:DEnv) (M2:Z2)=>∃m',m'<μ σ0 M0∧m'=μ σ2 M2∧I σ2 M2∧True)=fun σ2 M2=>I σ2 M2∧μ σ2 M2<μ σ0 M0:=by
  intro σ0 M0
  funext σ2 M2
  apply propext
  constructor
  ·rintro⟨m',h1,rfl,h2,_⟩;exact⟨h2,h1⟩
  ·rintro⟨h1,h2⟩;exact⟨_,h2,rfl,h1,trivial⟩
 rw[e σ M]
 exact step σ M hI
theorem mulR{i j:Int}(h1:-(2 ^ 64)<j)(h2:j<2 ^ 64):IntMulOk i j:=CMul.ok (.inr ⟨h1,h2⟩)
theorem mulL{i j:Int}(h1:-(2 ^ 64)<i)(h2:i<2 ^ 64):IntMulOk i j:=CMul.ok (.inl ⟨h1,h2⟩)
theorem Zi{i j:Int}(h1:0<j)(h2:j<2 ^ 64):Z16 i j:=by
 refine⟨by omega,?_⟩
 have h3:j.natAbs<2 ^ 64:=by omega
 exact Nat.lt_trans (C7 h3 (by decide)) (by decide)
theorem Z1{n:Nat}(h:n≤16000000):n≤sizeLine:=by rw[sizeLine_eq];omega
theorem Zd{n:Nat}(h:n≤16000000):n<sizeLine:=by rw[sizeLine_eq];omega
section
variable{M:Z2}{Q:DK}{B:Bool→Prop}{i j:Int}{a b:Str}{p q:Bool}{xs ys:List D}{n m:Nat}{K:PySem.W.Frag}
theorem op_add_i:opD .add (.int i) (.int j) M Q=Q (.int (i+j)) M:=rfl
theorem op_add_s:opD .add (.str a) (.str b) M Q=(a.length+b.length≤sizeLine∧Q (.str (a++b)) M):=rfl
theorem op_add_t:opD .add (.tup xs) (.tup ys) M Q=(xs≠[]∧xs.length+ys.length≤sizeLine∧Q (.tup (xs++ys)) M):=rfl
theorem op_add_l:opD .add (.ref n) (.ref m) M Q=∃xs ys,Z4 M n=some xs∧Z4 M m=some ys∧xs.length+ys.length≤sizeLine∧Q (.ref M.length) (M++[.lst (xs++ys)]):=rfl
theorem op_sub_i:opD .sub (.int i) (.int j) M Q=Q (.int (i - j)) M:=rfl
theorem op_mul_i:opD .mul (.int i) (.int j) M Q=(IntMulOk i j∧Q (.int (i * j)) M):=rfl
theorem op_mul_l:opD .mul (.ref n) (.int i) M Q=∃xs,Z4 M n=some xs∧0≤i∧i<2 ^ 62∧xs.length * i.toNat≤sizeLine∧Q (.ref M.length) (M++[.lst (List.replicate i.toNat xs).flatten]):=rfl
theorem op_fdiv_i:opD .fdiv (.int i) (.int j) M Q=(Z16 i j∧Q (.int (qdiv i j)) M):=rfl
theorem op_mod_i:opD .mod (.int i) (.int j) M Q=(j≠0∧Q (.int (qmod i j)) M):=rfl
theorem op_pow_i:opD .pow (.int i) (.int j) M Q=(CPow i j∧Q (.int (i ^ j.toNat)) M):=rfl
theorem cm_lt_i:cmD M .lt (.int i) (.int j) B=B (decide (i<j)):=rfl
theorem cm_gt_i:cmD M .gt (.int i) (.int j) B=B (decide (j<i)):=rfl
theorem cm_ge_i:cmD M .ge (.int i) (.int j) B=B (decide (j≤i)):=rfl
theorem cm_eq{x y:D}:cmD M .eq x y B=eqD M x y B:=rfl
theorem cm_ne{x y:D}:cmD M .ne x y B=eqD M x y fun b=>B (!b):=rfl
theorem cm_in{x y:D}:cmD M .isin x y B=inQ M x y B:=rfl
theorem cm_notin{x y:D}:cmD M .notin x y B=inQ M x y fun b=>B (!b):=rfl
theorem cm_is_n:cmD M .is .non .non B=B true:=rfl
theorem cm_is_i:cmD M .is (.int i) .non B=B false:=rfl
theorem cm_is_s:cmD M .is (.str a) .non B=B false:=rfl
theorem cm_is_b:cmD M .is (.bl p) .non B=B false:=rfl
theorem cm_is_t:cmD M .is (.tup xs) .non B=B false:=rfl
theorem cm_is_r:cmD M .is (.ref n) .non B=B false:=rfl
theorem eq_i:eqD M (.int i) (.int j) B=B (decide (i=j)):=rfl
theorem eq_s:eqD M (.str a) (.str b) B=B (decide (a=b)):=rfl
theorem eq_b:eqD M (.bl p) (.bl q) B=B (decide (p=q)):=rfl
theorem eq_nn:eqD M .non .non B=B true:=rfl
theorem eq_is:eqD M (.int i) (.str b) B=B false:=rfl
theorem eq_si:eqD M (.str b) (.int i) B=B false:=rfl
theorem tru_b:truD M (.bl p) B=B p:=rfl
theorem tru_i:truD M (.int i) B=B (i !=0):=rfl
theorem tru_n:truD M .non B=B false:=rfl
theorem tru_t:truD M (.tup xs) B=B (!xs.isEmpty):=rfl
theorem ix_t{F:D→Prop}:ixD M (.tup xs) (.int i) F=∃d,atI xs i=some d∧F d:=rfl
theorem ix_g{F:D→Prop}:ixD M (.gtup xs) (.int i) F=∃d,atI xs i=some d∧F d:=rfl
theorem ix_s{F:D→Prop}:ixD M (.str a) (.int i) F=(a.length≤sizeLine∧∃c,atI a.cps.toList i=some c∧F (.str ⟨#[c]⟩)):=rfl
theorem ix_l{F:D→Prop}{k:Nat}(h:Zf M n=some xs){d:D}(hd:xs[k]?=some d)(hF:F d):ixD M (.ref n) (.int k) F:= .inl ⟨xs,k,d,rfl,h,S6 hd,hF⟩
theorem Qf{F:D→Prop}(h:Zf M n=some xs){d:D}(hd:atI xs i=some d)(hF:F d):ixD M (.ref n) (.int i) F:= .inl ⟨xs,i,d,rfl,h,hd,hF⟩
theorem ix_d{F:D→Prop}{kvs:List (Key×D)}{k:D}{y:Key}(h:W8 M n=some kvs)(hk:keyD k=some y){d:D}(hd:valD kvs y=some d)(hF:F d):ixD M (.ref n) k F:= .inr ⟨kvs,y,d,Zn1 h,hk,hd,hF⟩
theorem sl_s{lo hi:Option Int}:slD (.str a) lo hi M Q=(a.length≤sizeLine∧Q (.str (Txt.slice a lo hi)) M):=rfl
theorem sl_t{lo hi:Option Int}:slD (.tup xs) lo hi M Q=(¬(HT.sIx xs.length 0 lo=0∧HT.sIx xs.length xs.length hi=xs.length)∧Q (.tup (cutD xs lo hi)) M):=rfl
theorem sl_l{lo hi:Option Int}:slD (.ref n) lo hi M Q=∃xs,Zf M n=some xs∧Q (.ref M.length) (M++[.lst (cutD xs lo hi)]):=rfl
noncomputable def tyNon:Ty→Bool:=fun _=>false
noncomputable def tyBl:Ty→Bool
 | .bool=>true | .int=>true | _=>false
noncomputable def tyInt:Ty→Bool
 | .int=>true | _=>false
noncomputable def tyStr:Ty→Bool
 | .str=>true | _=>false
noncomputable def tyTup:Ty→Bool
 | .tuple=>true | _=>false
noncomputable def tyLst:Ty→Bool
 | .list=>true | _=>false
noncomputable def tyDct:Ty→Bool
 | .dict=>true | _=>false
theorem Qp{d:D}{t:Ty}{s:String}{v:Bool}(hd:∀e C dx r,d≠ .exn e C dx r)(h1:tyD M d=some s)(h2:PySem.W.kitOne K (.type s) (.type (Xf t))=some v):isD K M d (.ty (Xf t)) B=B v:=by
 have:isD K M d (.ty (Xf t)) B=∃t' b,tyD M d=some t'∧PySem.W.kitOne K (.type t') (.type (Xf t))=some b∧B b:=by
  cases d<;>first | rfl | exact absurd rfl (hd _ _ _ _)
 rw[this]
 apply propext
 constructor
 ·rintro⟨t',b,e1,e2,h⟩
  rw[h1] at e1
  cases e1
  rw[h2] at e2
  cases e2
  exact h
 ·intro h;exact⟨s,v,h1,h2,h⟩
theorem is_non{t:Ty}:isD K M .non (.ty (Xf t)) B=B (tyNon t):=Qp (fun _ _ _ _ h=>nomatch h) rfl (by cases t<;>rfl)
theorem is_bl{t:Ty}:isD K M (.bl p) (.ty (Xf t)) B=B (tyBl t):=Qp (fun _ _ _ _ h=>nomatch h) rfl (by cases t<;>rfl)
theorem is_int{t:Ty}:isD K M (.int i) (.ty (Xf t)) B=B (tyInt t):=Qp (fun _ _ _ _ h=>nomatch h) rfl (by cases t<;>rfl)
theorem is_str{t:Ty}:isD K M (.str a) (.ty (Xf t)) B=B (tyStr t):=Qp (fun _ _ _ _ h=>nomatch h) rfl (by cases t<;>rfl)
theorem is_tup{t:Ty}:isD K M (.tup xs) (.ty (Xf t)) B=B (tyTup t):=Qp (fun _ _ _ _ h=>nomatch h) rfl (by cases t<;>rfl)
theorem Zj7{t:Ty}(h:Z4 M n=some xs):isD K M (.ref n) (.ty (Xf t)) B=B (tyLst t):=Qp (s:="list") (fun _ _ _ _ h=>nomatch h) (by simp only[tyD,Oi h]) (by cases t<;>rfl)
theorem Y4(h:Zf M n=some xs)(hq:Q (.int xs.length) M):bfD K .len [.ref n] M Q:= .inl ⟨xs,h,hq⟩
theorem bf_len_t:bfD K .len [.tup xs] M Q=Q (.int xs.length) M:=rfl
theorem bf_len_s:bfD K .len [.str a] M Q=(a.length≤sizeLine∧Q (.int a.length) M):=rfl
theorem bf_is{d c:D}:bfD K .isinst [d,c] M Q=isD K M d c fun b=>Q (.bl b) M:=rfl
theorem bf_min:bfD K .min2 [.int i,.int j] M Q=Q (.int (if j<i then j else i)) M:=rfl
theorem bf_max:bfD K .max2 [.int i,.int j] M Q=Q (.int (if j >i then j else i)) M:=rfl
theorem bf_int:bfD K .int1 [.bl p] M Q=Q (.int (if p then 1 else 0)) M:=rfl
theorem Y14{x y:D}{F:D→D→Prop}:at2 [x,y] F=F x y:=rfl
theorem on_ref{F:Nat→Prop}:Q5 (.ref n) F=F n:=rfl
theorem set_f:setD false n M Q=∃ks:List Key,Zf M n=some (ks.map kD)∧ks.length+1<scanBound∧∀ks':List Key,ks'.Nodup→(∀k,k∈ks'↔k∈ks)→Q (.int ks'.length) M:=rfl
theorem mt_popi_r{k:D}:mtD .popi (.ref n) [k] M Q=∃xs d,∃j:Nat,k= .int j∧Z4 M n=some xs∧xs[j]?=some d∧Q d (M.set n (.lst (xs.eraseIdx j))):=rfl
theorem mt_insi_r{k d:D}:mtD .insi (.ref n) [k,d] M Q=∃xs,∃j:Nat,k= .int j∧Z4 M n=some xs∧j≤xs.length∧xs.length<sizeLine∧Q .non (M.set n (.lst (xs.take j++d::xs.drop j))):=rfl
theorem mk_popi:mtK .popi (.ref n) M=((Zf M n).isSome=true):=rfl
theorem mk_insi:mtK .insi (.ref n) M=((Zf M n).isSome=true):=rfl
theorem ati0{α:Type}{x:α}{l:List α}:atI (x::l) 0=some x:=S6 (j:=0) rfl
theorem ati1{α:Type}{x y:α}{l:List α}:atI (x::y::l) 1=some y:=S6 (j:=1) rfl
theorem ati2{α:Type}{x y z:α}{l:List α}:atI (x::y::z::l) 2=some z:=S6 (j:=2) rfl
theorem ofS_inj{a b:String}:(Str.ofString a=Str.ofString b)=(a=b):=by
 apply propext
 constructor
 ·intro h
  rw[Str.ofString_eq_toList,Str.ofString_eq_toList] at h
  have h1:=congrArg (fun s:Str=>s.cps.toList) h
  simp only at h1
  have inj:∀{l m:List Char},l.map Char.toNat=m.map Char.toNat→l=m:=by
   intro l
   induction l with
   | nil=>intro m h;cases m<;>simp_all
   | cons c l ih=>
    intro m h
    cases m with
    | nil=>simp at h
    | cons e m=>
     rw[List.map_cons,List.map_cons,List.cons.injEq] at h
     rw[ih h.2,Char.toNat_inj.mp h.1]
  exact String.toList_inj.mp (inj h1)
 ·intro h;rw[h]
theorem mt_append_r{d:D}:mtD .append (.ref n) [d] M Q=∃xs,Z4 M n=some xs∧xs.length<sizeLine∧Q .non (M.set n (.lst (xs++[d]))):=rfl
theorem mt_pop_r:mtD .pop0 (.ref n) [] M Q=∃xs d,Z4 M n=some xs∧xs[xs.length - 1]?=some d∧Q d (M.set n (.lst xs.dropLast)):=rfl
theorem mt_extend_r{m:Nat}:mtD .extend (.ref n) [.ref m] M Q=∃xs ys,Z4 M n=some xs∧Z4 M m=some ys∧xs.length+ys.length≤sizeLine∧Q .non (M.set n (.lst (xs++ys))):=rfl
theorem mk_extend:mtK .extend (.ref n) M=((Zf M n).isSome=true):=rfl
theorem mk_append:mtK .append (.ref n) M=((Zf M n).isSome=true):=rfl
theorem mk_pop:mtK .pop0 (.ref n) M=((Zf M n).isSome=true):=rfl
theorem tg_one{k:Nat}{d:D}{σ:DEnv}{F:DEnv→Prop}:tgD [k] d σ F=F (σ.set k (some d)):=by cases d<;>rfl
theorem tg_two{k l:Nat}{d e:D}{σ:DEnv}{F:DEnv→Prop}:tgD [k,l] (.tup [d,e]) σ F=F ((σ.set k (some d)).set l (some e)):=by
 show([d,e].length=[k,l].length∧F _)=_
 simp
theorem it_r{R:Own→List D→Prop}:itD M (.ref n) R=∃xs,Zf M n=some xs∧R (.lst n) xs:=rfl
theorem it_t{R:Own→List D→Prop}:itD M (.tup xs) R=R .no xs:=rfl
theorem it_g{R:Own→List D→Prop}:itD M (.gtup xs) R=R .no xs:=rfl
theorem key_i:keyD (.int i)=some (.inl i):=rfl
theorem key_s:keyD (.str a)=some (.inr a):=rfl
theorem in_ss:inQ M (.str a) (.str b) B=B (!(Builtin.Str.occurrences b a 0 b.length 1).isEmpty):=rfl
end
theorem Za{α:Type}{o:Option α}{x:α}(h:o=some x):o.isSome=true:=by rw[h];rfl
theorem Prg.up{P:Program}{w:World}{K:PySem.W.Frag}{mg:Str→Option Value}{base:Heap}{c:Cfg}{FN GN BN:List Str}{lv lv':Nat}(Pr:Prg P w K mg base c FN GN BN lv)(h:lv≤lv'):Prg P w K mg base c FN GN BN lv' where
 hK:=Pr.hK
 fns:=fun m y sp e1 e2=>by
  obtain⟨kk,f,fd,ps,ds,dvs,dD,sp0,F,hk,r⟩:=Pr.fns m y sp e1 e2
  exact⟨kk,f,fd,ps,ds,dvs,dD,sp0,F,Nat.le_trans hk h,r⟩
 flen:=Pr.flen
 glb:=Pr.glb
 blt:=Pr.blt
theorem Zh2{α:Type}{P:List α→Prop}(h:P [])(l:List α)(e:l.length=0):P l:=by
 cases l with
 | nil=>exact h
 | cons _ _=>cases e
theorem Fn{α:Type}{n:Nat}{P:List α→Prop}(h:∀a l,l.length=n→P (a::l))(l:List α)(e:l.length=n+1):P l:=by
 cases l with
 | nil=>cases e
 | cons a r=>exact h a r (Nat.succ.inj e)
theorem Wi{α:Type}{P:List α→Prop}(h:∀a,P [a]):∀l:List α,l.length=1→P l:=Fn fun a=>Zh2 (h a)
theorem Vd{α:Type}{P:List α→Prop}(h:∀a b,P [a,b]):∀l:List α,l.length=2→P l:=Fn fun a=>Wi (P:=fun l=>P (a::l)) (h a)
theorem Z04{α:Type}{P:List α→Prop}(h:∀a b c,P [a,b,c]):∀l:List α,l.length=3→P l:=Fn fun a=>Vd (P:=fun l=>P (a::l)) (h a)
theorem Z46{α:Type}{P:List α→Prop}(h:∀a b c d,P [a,b,c,d]):∀l:List α,l.length=4→P l:=Fn fun a=>Z04 (P:=fun l=>P (a::l)) (h a)
theorem Z33{α:Type}{P:α→Prop}:∀x∈([]:List α),P x:=fun _ h=>absurd h List.not_mem_nil
theorem all_cons{α:Type}{P:α→Prop}{a:α}{l:List α}(h:P a)(t:∀x∈l,P x):∀x∈a::l,P x:=fun x hx=>(List.mem_cons.mp hx).elim (fun e=>e ▸ h) (t x)
end U
namespace GT
inductive Av (g:Nat→List Nat) (a:Nat):Nat→Prop
 | zero:a≠0→Av g a 0
 | step {x y:Nat}:Av g a x→y∈g x→y≠a→Av g a y
structure Num(g:Nat→List Nat)(n:Nat):Prop where
 pos:0<n
 cl:∀x,x<n→∀y∈g x,y<n
 up:∀k,k<n→k≠0→∃p,p<k∧k∈g p
structure Must(g:Nat→List Nat)(k m:Nat):Prop where
 ne:m≠k
 dom:¬Av g m k
 last:∀d,d≠k→¬Av g d k→d≤m
structure Wk(g:Nat→List Nat)(n:Nat)(B:List Nat)(T:List (Nat×Nat))(F:List Nat):Prop where
 bn:B.Nodup
 bl:∀x∈B,x<n
 z:0∈B
 mem:∀x,x∈B↔(∃s,(x,s)∈T)∨x∈F
 nd:(T.map (·.1)++F).Nodup
 first:∀p,T[0]?=some p→p.1=0
 chain:∀(i:Nat) p q,T[i]?=some p→T[i+1]?=some q→q.1∈g p.1
 steps:∀a s,(a,s)∈T→s≤(g a).length∧∀j y,j<s→(g a)[j]?=some y→y∈B
 fin:∀d∈F,∀y∈g d,y∈B
 par:∀(i:Nat) x,F[i]?=some x→x≠0→∃p,x∈g p∧p∈B∧p∉F.take (i+1)
theorem Fc{α:Type}(T:List α)(p:α):(T++[p])[T.length]?=some p:=by simp
theorem Rk{α:Type}{T:List α}{p q:α}{i:Nat}(h:T[i]?=some q):(T++[p])[i]?=some q:=by
 rw[List.getElem?_append_left (List.getElem?_eq_some_iff.mp h).1];exact h
theorem Xk{α:Type}{T:List α}{p q:α}{i:Nat}(h:(T++[p])[i]?=some q):T[i]?=some q∨(i=T.length∧q=p):=by
 by_cases hi:i<T.length
 ·rw[List.getElem?_append_left hi] at h;exact .inl h
 ·rw[List.getElem?_append_right (by omega)] at h
  have h':=(List.getElem?_eq_some_iff.mp h).1
  simp at h'
  have e:i - T.length=0:=by omega
  rw[e] at h
  simp at h
  exact .inr ⟨by omega,h.symm⟩
theorem Wk.open{g:Nat→List Nat}{n a s y:Nat}{B F:List Nat}{T:List (Nat×Nat)}(w:Wk g n B (T++[(a,s)]) F)(hy:(g a)[s]?=some y)(hn:y<n)(hb:y∉B):Wk g n (B++[y]) (T++[(a,s+1),(y,0)]) F where
 bn:=by
  rw[List.nodup_append]
  refine⟨w.bn,by simp,fun x hx z hz=>?_⟩
  simp at hz
  subst hz
  exact fun e=>hb (e ▸ hx)
 bl:=by
  intro x hx
  rcases List.mem_append.mp hx with h | h
  ·exact w.bl x h
  ·simp at h;omega
 z:=List.mem_append_left _ w.z
 mem:=by
  intro x
  rw[List.mem_append,w.mem x]
  simp only[List.mem_append,List.mem_singleton,List.mem_cons,Prod.mk.injEq,List.not_mem_nil,or_false]
  constructor
  ·rintro((⟨s',h | ⟨rfl,rfl⟩⟩ | h) | rfl)
   ·exact .inl ⟨s',.inl h⟩
   ·exact .inl ⟨s'+1,.inr (.inl ⟨rfl,rfl⟩)⟩
   ·exact .inr h
   ·exact .inl ⟨0,.inr (.inr ⟨rfl,rfl⟩)⟩
  ·rintro(⟨s',h | ⟨rfl,rfl⟩ | ⟨rfl,rfl⟩⟩ | h)
   ·exact .inl (.inl ⟨s',.inl h⟩)
   ·exact .inl (.inl ⟨s,.inr ⟨rfl,rfl⟩⟩)
   ·exact .inr rfl
   ·exact .inl (.inr h)
 nd:=by
  have h1:=w.nd
  have h2:y∉(T++[(a,s)]).map (·.1)++F:=by
   intro h
   apply hb
   rw[w.mem y]
   rcases List.mem_append.mp h with h | h
   ·obtain⟨⟨b,t⟩,hp,e⟩:=List.mem_map.mp h
    simp at e
    subst e
    exact .inl ⟨t,hp⟩
   ·exact .inr h
  have p:((T++[(a,s+1),(y,0)]).map (·.1)++F).Perm (y::((T++[(a,s)]).map (·.1)++F)):=by
   simp only[List.map_append,List.map_cons,List.map_nil,List.append_assoc,List.cons_append,List.nil_append]
   have q:=List.perm_middle (a:=y) (l₁:=List.map (fun x=>x.1) T++[a]) (l₂:=F)
   simpa only[List.append_assoc,List.cons_append,List.nil_append] using q
  exact p.nodup_iff.mpr (List.nodup_cons.mpr ⟨h2,h1⟩)
 first:=by
  intro p h
  have:T++[(a,s+1),(y,0)]=(T++[(a,s+1)])++[(y,0)]:=by simp
  rw[this] at h
  rcases Xk h with h | ⟨e,rfl⟩
  ·rcases Xk h with h | ⟨e,rfl⟩
   ·exact w.first p (Rk h)
   ·exact w.first (a,s) (by rw[e];exact Fc _ _)
  ·simp at e
 chain:=by
  intro i p q h1 h2
  have:T++[(a,s+1),(y,0)]=(T++[(a,s+1)])++[(y,0)]:=by simp
  rw[this] at h1 h2
  rcases Xk h2 with h2 | ⟨e,rfl⟩
  ·rcases Xk h1 with h1 | ⟨e1,rfl⟩
   ·rcases Xk h2 with h2 | ⟨e,rfl⟩
    ·rcases Xk h1 with h1 | ⟨e1,rfl⟩
     ·exact w.chain i p q (Rk h1) (Rk h2)
     ·have:=(List.getElem?_eq_some_iff.mp h2).1
      omega
    ·rcases Xk h1 with h1 | ⟨e1,rfl⟩
     ·exact w.chain i p (a,s) (Rk h1) (by rw[e];exact Fc _ _)
     ·omega
   ·have:=(List.getElem?_eq_some_iff.mp h2).1
    omega
  ·rcases Xk h1 with h1 | ⟨e1,rfl⟩
   ·rcases Xk h1 with h1 | ⟨e1,rfl⟩
    ·have:=(List.getElem?_eq_some_iff.mp h1).1
     simp at e
     omega
    ·exact List.mem_of_getElem? hy
   ·omega
 steps:=by
  intro b t h
  simp only[List.mem_append,List.mem_cons,List.not_mem_nil,or_false,Prod.mk.injEq] at h
  rcases h with h | ⟨rfl,rfl⟩ | ⟨rfl,rfl⟩
  ·obtain⟨h1,h2⟩:=w.steps b t (List.mem_append_left _ h)
   exact⟨h1,fun j z hj hz=>List.mem_append_left _ (h2 j z hj hz)⟩
  ·obtain⟨h1,h2⟩:=w.steps b s (by simp)
   refine⟨(List.getElem?_eq_some_iff.mp hy).1,fun j z hj hz=>?_⟩
   by_cases e:j=s
   ·subst e;rw[hy] at hz;cases hz;simp
   ·exact List.mem_append_left _ (h2 j z (by omega) hz)
  ·exact⟨Nat.zero_le _,fun j y h=>by omega⟩
 fin:=fun d h z hz=>List.mem_append_left _ (w.fin d h z hz)
 par:=by
  intro i x h hx
  obtain⟨p,h1,h2,h3⟩:=w.par i x h hx
  exact⟨p,h1,List.mem_append_left _ h2,h3⟩
structure Ord(g:Nat→List Nat)(n:Nat)(O:List Nat):Prop where
 nd:O.Nodup
 lt:∀x∈O,x<n
 z:O[0]?=some 0
 cl:∀x∈O,∀y∈g x,y∈O
 up:∀(k:Nat) x,O[k]?=some x→k≠0→∃(j:Nat) (p:Nat),j<k∧O[j]?=some p∧x∈g p
structure Fd(g:Nat→List Nat)(n a:Nat)(L:List Nat)(t:Nat):Prop where
 nd:L.Nodup
 z:L[0]?=some 0
 av:∀x∈L,Av g a x
 done:∀(i:Nat) x,i<t→L[i]?=some x→∀y∈g x,y=a∨y∈L
 le:t≤L.length
theorem Fd.next{g:Nat→List Nat}{n a t x:Nat}{L:List Nat}(f:Fd g n a L t)(hx:L[t]?=some x)(h:∀y∈g x,y=a∨y∈L):Fd g n a L (t+1) where
 nd:=f.nd
 z:=f.z
 av:=f.av
 done:=by
  intro i u h1 h2 v hv
  by_cases e:i=t
  ·subst e;rw[hx] at h2;cases h2;exact h v hv
  ·exact f.done i u (by omega) h2 v hv
 le:=(List.getElem?_eq_some_iff.mp hx).1
end GT
namespace K51
open PySem PySem.Spec PyProof.Rows L2 L3 U
noncomputable def top(i:Nat):Stmt:=PySem.Challenge.pw_unjump_k51_sound.main.body.getD i (.Pass ⟨0,0,0,0⟩)
noncomputable def FN:List Str:=["line_of","told_within","lines_of","is_within","keep_within","sound","_law_raw","_law_mix","_law_kept","_law_sign","_law_word","_law_names","_law_operand","_law_begins","_law_deed","_law_goes","_law_first","_law_close","_law_step","_law_lines","_law_nested","_law_sound","_law_has_number","_law_number_by","_law_changed","_law_alike","_law_told_so","law"]
noncomputable def GN:List Str:=["ELSE","DONE","OPENERS","MOST_NUMBER"]
noncomputable def BN:List Str:=["list","reversed","any","len","set","range","int","zip","isinstance","tuple","str","bool","max","min"]
noncomputable abbrev Xi:Stmt:=top 9
noncomputable def Te:List Str:=["statement"]
theorem Ea:FnScope Te ["statement"] (Z3 Xi):=⟨rfl,rfl,rfl,by decide+kernel,rfl,by decide+kernel,by decide+kernel⟩
noncomputable def Vz:Ss:=
 (.cons (.ret (.var 0))
 .nil)
noncomputable def Xx:Ss:=
 (.cons (.ite (.cmp .isin (.ix (.var 0) (.int 0)) (.tup (.cons (.str "round") (.cons (.str "part") .nil)))) (.cons (.ret (.slW (.var 0) .no (.yes (.int 2))))
 .nil) .nil)
 Vz)
noncomputable def b_line_of:Ss:=
 (.cons (.ite (.cmp .eq (.ix (.var 0) (.int 0)) (.str "choice")) (.cons (.ret (.sl (.var 0) .no (.yes (.int 4))))
 .nil) .nil)
 Xx)
theorem Z45:Yk (ck0 Te Xi FN GN BN) b_line_of (Z5 Xi)=true:=by decide+kernel
noncomputable abbrev Y1:Stmt:=top 10
noncomputable def Zz:List Str:=["statement","yes","no"]
theorem Qk:FnScope Zz ["statement"] (Z3 Y1):=⟨rfl,rfl,rfl,by decide+kernel,rfl,by decide+kernel,by decide+kernel⟩
noncomputable def V2:Ss:=
 (.cons (.ret (.bin .add (.bin .add (.bin .add (.var 1) (.lst (.cons (.glb 0) .nil))) (.var 2)) (.lst (.cons (.glb 1) .nil))))
 .nil)
noncomputable def V6:Ss:=
 (.cons (.set [1,2] (.sl (.var 0) (.yes (.int 4)) .no))
 (.cons (.ite (.cmp .eq (.var 2) (.lst .nil)) (.cons (.ret (.bin .add (.var 1) (.lst (.cons (.glb 1) .nil))))
 .nil) .nil)
 V2))
noncomputable def X7:Ss:=
 (.cons (.ite (.cmp .ne (.ix (.var 0) (.int 0)) (.str "choice")) (.cons (.ret (.lst .nil))
 .nil) .nil)
 V6)
noncomputable def b_told_within:Ss:=
 (.cons (.ite (.cmp .isin (.ix (.var 0) (.int 0)) (.tup (.cons (.str "round") (.cons (.str "part") .nil)))) (.cons (.ret (.bin .add (.ix (.var 0) (.int 2)) (.lst (.cons (.glb 1) .nil))))
 .nil) .nil)
 X7)
theorem Pz:Yk (ck0 Zz Y1 FN GN BN) b_told_within (Z5 Y1)=true:=by decide+kernel
noncomputable abbrev Yy:Stmt:=top 8
noncomputable def Vm:List Str:=["form","told","left","statement"]
theorem Jp:FnScope Vm ["form"] (Z3 Yy):=⟨rfl,rfl,rfl,by decide+kernel,rfl,by decide+kernel,by decide+kernel⟩
noncomputable def Sr:Ss:=
 (.cons (.ret (.var 1))
 .nil)
noncomputable def Su:Ss:=
 (.cons (.set [3] (.mt .pop0 (.var 2) .nil))
 (.cons (.expr (.mt .append (.var 1) (.cons (.call 0 (.cons (.var 3) .nil)) .nil)))
 (.cons (.expr (.mt .extend (.var 2) (.cons (.lrev (.call 1 (.cons (.var 3) .nil))) .nil)))
 .nil)))
noncomputable def b_lines_of:Ss:=
 (.cons (.set [1] (.lst .nil))
 (.cons (.set [2] (.lrev (.var 0)))
 (.cons (.while_ (.cmp .ne (.var 2) (.lst .nil)) Su)
 Sr)))
theorem C6:Yk (ck0 Vm Yy FN GN BN) b_lines_of (Z5 Yy)=true:=by decide+kernel
noncomputable abbrev Yl:Stmt:=top 7
noncomputable def Wj:List Str:=["line","opened"]
theorem Nj:FnScope Wj ["line","opened"] (Z3 Yl):=⟨rfl,rfl,rfl,by decide+kernel,rfl,by decide+kernel,by decide+kernel⟩
noncomputable def Wl:Ss:=
 (.cons (.ret (.bop true (.cons (.cmp .eq (.ix (.var 0) (.int 0)) (.str "leave")) (.cons (.cmp .isin (.tup (.cons (.str "part") (.cons (.ix (.var 0) (.int 1)) .nil))) (.var 1)) .nil))))
 .nil)
noncomputable def b_is_within:Ss:=
 (.cons (.ite (.cmp .isin (.tup (.cons (.str "round") (.cons (.ix (.var 0) (.int 1)) .nil))) (.var 1)) (.cons (.ret (.bl true))
 .nil) .nil)
 Wl)
theorem Jw:Yk (ck0 Wj Yl FN GN BN) b_is_within (Z5 Yl)=true:=by decide+kernel
noncomputable abbrev Y2:Stmt:=top 6
noncomputable def Xl:List Str:=["lines","opened","line"]
theorem Qh:FnScope Xl ["lines"] (Z3 Y2):=⟨rfl,rfl,rfl,by decide+kernel,rfl,by decide+kernel,by decide+kernel⟩
noncomputable def Ww:Ss:=
 (.cons (.ret (.bl true))
 .nil)
noncomputable def Wu:Ss:=
 (.cons (.ite (.cmp .isin (.ix (.var 2) (.int 0)) (.glb 2)) (.cons (.expr (.mt .append (.var 1) (.cons (.slW (.var 2) .no (.yes (.int 2))) .nil)))
 .nil) (.cons (.ite (.cmp .eq (.var 2) (.glb 1)) (.cons (.expr (.mt .pop0 (.var 1) .nil))
 .nil) (.cons (.ite (.bop true (.cons (.cmp .isin (.ix (.var 2) (.int 0)) (.tup (.cons (.str "leave") (.cons (.str "again") .nil)))) (.cons (.not (.call 3 (.cons (.var 2) (.cons (.var 1) .nil)))) .nil))) (.cons (.ret (.bl false))
 .nil) .nil)
 .nil))
 .nil))
 .nil)
noncomputable def b_keep_within:Ss:=
 (.cons (.set [1] (.lst .nil))
 (.cons (.for_ [2] (.seq (.var 0)) Wu)
 Ww))
theorem O9:Yk (ck0 Xl Y2 FN GN BN) b_keep_within (Z5 Y2)=true:=by decide+kernel
noncomputable abbrev Vj:Stmt:=top 5
noncomputable def Oo:List Str:=["form","lines","numbers"]
theorem Zg8:FnScope Oo ["form"] (Z3 Vj):=⟨rfl,rfl,rfl,by decide+kernel,rfl,by decide+kernel,by decide+kernel⟩
noncomputable def Nu:Ss:=
 (.cons (.ret (.call 4 (.cons (.var 1) .nil)))
 .nil)
noncomputable def Jl:Ss:=
 (.cons (.ite (.anyf (.comp ["number"] [none] [0] (.seq (.var 2)) .no (.bop false (.cons (.cmp .lt (.var 0) (.int 0)) (.cons (.cmp .gt (.var 0) (.glb 3)) .nil))))) (.cons (.ret (.bl false))
 .nil) .nil)
 Nu)
noncomputable def b_sound:Ss:=
 (.cons (.set [1] (.call 2 (.cons (.var 0) .nil)))
 (.cons (.set [2] (.comp ["line"] [none] [0] (.seq (.var 1)) (.yes (.cmp .isin (.ix (.var 0) (.int 0)) (.tup (.cons (.str "round") (.cons (.str "part") .nil))))) (.ix (.var 0) (.int 1))))
 (.cons (.ite (.cmp .lt (.setf false (.var 2)) (.bf .len (.cons (.var 2) .nil))) (.cons (.ret (.bl false))
 .nil) .nil)
 Jl)))
theorem Zq8:Yk (ck0 Oo Vj FN GN BN) b_sound (Z5 Vj)=true:=by decide+kernel
noncomputable abbrev Sv:Stmt:=top 12
noncomputable def Gy:List Str:=["_law_script","_law_k"]
theorem Zp6:FnScope Gy ["_law_script","_law_k"] (Z3 Sv):=⟨rfl,rfl,rfl,by decide+kernel,rfl,by decide+kernel,by decide+kernel⟩
noncomputable def E1:Ss:=
 (.cons (.ret (.ix (.var 0) (.bin .mod (.var 1) (.bf .len (.cons (.var 0) .nil)))))
 .nil)
noncomputable def b_Lraw:Ss:=
 (.cons (.ite (.cmp .eq (.bf .len (.cons (.var 0) .nil)) (.int 0)) (.cons (.ret (.var 1))
 .nil) .nil)
 E1)
theorem Zu1:Yk (ck0 Gy Sv FN GN BN) b_Lraw (Z5 Sv)=true:=by decide+kernel
noncomputable abbrev R0:Stmt:=top 13
noncomputable def Gx:List Str:=["_law_script","_law_k","_law_turn"]
theorem Zm4:FnScope Gx ["_law_script","_law_k"] (Z3 R0):=⟨rfl,rfl,rfl,by decide+kernel,rfl,by decide+kernel,by decide+kernel⟩
noncomputable def E8:Ss:=
 (.cons (.set [2] (.bin .fdiv (.var 1) (.bf .len (.cons (.var 0) .nil))))
 (.cons (.ret (.bin .mod (.bin .mul (.bin .add (.bin .mod (.call 6 (.cons (.var 0) (.cons (.var 1) .nil))) (.int 2147483629)) (.int 2)) (.bin .add (.int 48271) (.bin .mul (.bin .mul (.int 7) (.var 2)) (.var 2)))) (.int 2147483647)))
 .nil))
noncomputable def b_Lmix:Ss:=
 (.cons (.ite (.cmp .eq (.bf .len (.cons (.var 0) .nil)) (.int 0)) (.cons (.ret (.bin .mod (.bin .mul (.bin .add (.bin .mul (.var 1) (.var 1)) (.int 3)) (.int 48271)) (.int 2147483647)))
 .nil) .nil)
 E8)
theorem Zx7:Yk (ck0 Gx R0 FN GN BN) b_Lmix (Z5 R0)=true:=by decide+kernel
noncomputable abbrev V4:Stmt:=top 14
noncomputable def O6:List Str:=[]
theorem Za2:FnScope O6 [] (Z3 V4):=⟨rfl,rfl,rfl,by decide+kernel,rfl,by decide+kernel,by decide+kernel⟩
noncomputable def b_Lkept:Ss:=
 (.cons (.ret (.lst (.cons (.str "if") (.cons (.str "jump") (.cons (.str "end") (.cons (.str "rest") (.cons (.str "round") (.cons (.str "part") (.cons (.str "leave") (.cons (.str "again") (.cons (.str "else") (.cons (.str "done") .nil))))))))))))
 .nil)
theorem Zo8:Yk (ck0 O6 V4 FN GN BN) b_Lkept (Z5 V4)=true:=by decide+kernel
noncomputable abbrev V9:Stmt:=top 15
noncomputable def Oa:List Str:=["_law_number","_law_first_here"]
theorem Ze6:FnScope Oa ["_law_number","_law_first_here"] (Z3 V9):=⟨rfl,rfl,rfl,by decide+kernel,rfl,by decide+kernel,by decide+kernel⟩
noncomputable def Na:Ss:=
 (.cons (.ret (.ix (.str "abcdefghijklmnopqrstuvwxyz0123456789") (.bin .mod (.var 0) (.int 36))))
 .nil)
noncomputable def b_Lsign:Ss:=
 (.cons (.ite (.var 1) (.cons (.ret (.ix (.str "abcdefghijklmnopqrstuvwxyz") (.bin .mod (.var 0) (.int 26))))
 .nil) .nil)
 Na)
theorem Zk8:Yk (ck0 Oa V9 FN GN BN) b_Lsign (Z5 V9)=true:=by decide+kernel
noncomputable abbrev V1:Stmt:=top 16
noncomputable def O5:List Str:=["_law_number","_law_size","_law_word_here","_law_k"]
theorem Zf0:FnScope O5 ["_law_number","_law_size"] (Z3 V1):=⟨rfl,rfl,rfl,by decide+kernel,rfl,by decide+kernel,by decide+kernel⟩
noncomputable def Jd:Ss:=
 (.cons (.ret (.var 2))
 .nil)
noncomputable def Jh:Ss:=
 (.cons (.set [0] (.bin .mod (.bin .mul (.bin .add (.var 0) (.int 2)) (.int 69621)) (.int 2147483629)))
 (.cons (.set [2] (.bin .add (.var 2) (.call 9 (.cons (.bin .fdiv (.var 0) (.int 64)) (.cons (.cmp .eq (.var 3) (.int 0)) .nil)))))
 .nil))
noncomputable def b_Lword:Ss:=
 (.cons (.set [2] (.str ""))
 (.cons (.for_ [3] (.rng1 (.var 1)) Jh)
 Jd))
theorem Zp5:Yk (ck0 O5 V1 FN GN BN) b_Lword (Z5 V1)=true:=by decide+kernel
noncomputable abbrev Xz:Stmt:=top 17
noncomputable def Rh:List Str:=["_law_script","_law_first_here","_law_stem","_law_at","_law_names_here","_law_k","_law_number","_law_word_here"]
theorem Z76:FnScope Rh ["_law_script"] (Z3 Xz):=⟨rfl,rfl,rfl,by decide+kernel,rfl,by decide+kernel,by decide+kernel⟩
noncomputable def Pg:Ss:=
 (.cons (.ret (.var 4))
 .nil)
noncomputable def Tw:Ss:=
 (.cons (.expr (.mt .append (.var 4) (.cons (.var 7) .nil)))
 .nil)
noncomputable def Sh:Ss:=
 (.cons (.ite (.cmp .isin (.var 7) (.call 8 .nil)) (.cons (.set [7] (.bin .add (.str "q") (.sl (.var 7) (.yes (.int 1)) .no)))
 .nil) .nil)
 Tw)
noncomputable def Tz:Ss:=
 (.cons (.ite (.bop true (.cons (.cmp .eq (.var 5) (.int 4)) (.cons (.cmp .eq (.bin .mod (.var 6) (.int 4)) (.int 1)) .nil))) (.cons (.set [7] (.bin .add (.ix (.call 8 .nil) (.bin .mod (.bin .fdiv (.var 6) (.int 4)) (.int 10))) (.call 9 (.cons (.bin .fdiv (.var 6) (.int 64)) (.cons (.bl false) .nil)))))
 .nil) .nil)
 Sh)
noncomputable def Pm:Ss:=
 (.cons (.set [6] (.call 7 (.cons (.var 0) (.cons (.bin .add (.int 902) (.var 5)) .nil))))
 (.cons (.set [7] (.bin .add (.bin .add (.sl (.var 2) .no (.yes (.var 3))) (.call 9 (.cons (.bin .add (.bin .fdiv (.var 1) (.int 512)) (.bin .mul (.int 7) (.var 5))) (.cons (.cmp .eq (.var 3) (.int 0)) .nil)))) (.sl (.var 2) (.yes (.bin .add (.var 3) (.int 1))) .no)))
 (.cons (.ite (.cmp .eq (.bin .mod (.var 1) (.int 2)) (.int 0)) (.cons (.set [7] (.call 10 (.cons (.var 6) (.cons (.bin .add (.int 1) (.bin .mod (.bin .fdiv (.var 6) (.int 8)) (.int 8))) .nil))))
 .nil) .nil)
 Tz)))
noncomputable def b_Lnames:Ss:=
 (.cons (.set [1] (.call 7 (.cons (.var 0) (.cons (.int 901) .nil))))
 (.cons (.set [2] (.call 10 (.cons (.var 1) (.cons (.bin .add (.int 1) (.bin .mod (.bin .fdiv (.var 1) (.int 8)) (.int 8))) .nil))))
 (.cons (.set [3] (.bin .mod (.bin .fdiv (.var 1) (.int 64)) (.bf .len (.cons (.var 2) .nil))))
 (.cons (.set [4] (.lst .nil))
 (.cons (.for_ [5] (.rng1 (.int 5)) Pm)
 Pg)))))
theorem Zg3:Yk (ck0 Rh Xz FN GN BN) b_Lnames (Z5 Xz)=true:=by decide+kernel
noncomputable abbrev X2:Stmt:=top 18
noncomputable def Vq:List Str:=["_law_script","_law_k","_law_names_here","_law_number","_law_big"]
theorem Jo:FnScope Vq ["_law_script","_law_k","_law_names_here","_law_number"] (Z3 X2):=⟨rfl,rfl,rfl,by decide+kernel,rfl,by decide+kernel,by decide+kernel⟩
noncomputable def So:Ss:=
 (.cons (.ret (.var 4))
 .nil)
noncomputable def V7:Ss:=
 (.cons (.ite (.cmp .eq (.bin .mod (.bin .fdiv (.var 3) (.int 12)) (.int 2)) (.int 0)) (.cons (.ret (.bin .sub (.int 0) (.var 4)))
 .nil) .nil)
 So)
noncomputable def R7:Ss:=
 (.cons (.set [4] (.bin .mod (.bin .mul (.bin .mod (.call 6 (.cons (.var 0) (.cons (.var 1) .nil))) (.bin .pow (.int 10) (.int 18))) (.bin .add (.int 1) (.bin .mod (.bin .fdiv (.var 3) (.int 24)) (.int 1000)))) (.bin .pow (.int 10) (.int 18))))
 (.cons (.ite (.cmp .eq (.bin .mod (.bin .fdiv (.var 3) (.int 3)) (.int 4)) (.int 0)) (.cons (.set [4] (.bin .sub (.bin .sub (.bin .pow (.int 10) (.int 18)) (.int 1)) (.bin .mod (.bin .fdiv (.var 3) (.int 24)) (.int 3))))
 .nil) .nil)
 V7))
noncomputable def Sz:Ss:=
 (.cons (.ite (.cmp .eq (.bin .mod (.var 3) (.int 3)) (.int 1)) (.cons (.ret (.bin .sub (.bin .mod (.bin .fdiv (.var 3) (.int 3)) (.int 41)) (.int 20)))
 .nil) .nil)
 R7)
noncomputable def b_Loperand:Ss:=
 (.cons (.ite (.cmp .eq (.bin .mod (.var 3) (.int 3)) (.int 0)) (.cons (.ret (.ix (.var 2) (.bin .mod (.bin .fdiv (.var 3) (.int 3)) (.int 5))))
 .nil) .nil)
 Sz)
theorem Cz:Yk (ck0 Vq X2 FN GN BN) b_Loperand (Z5 X2)=true:=by decide+kernel
noncomputable abbrev Xg:Stmt:=top 19
noncomputable def Tj:List Str:=["_law_line"]
theorem En:FnScope Tj ["_law_line"] (Z3 Xg):=⟨rfl,rfl,rfl,by decide+kernel,rfl,by decide+kernel,by decide+kernel⟩
noncomputable def b_Lbegins:Ss:=
 (.cons (.ret (.bop false (.cons (.cmp .eq (.ix (.var 0) (.int 0)) (.str "if")) (.cons (.cmp .eq (.ix (.var 0) (.int 0)) (.str "round")) (.cons (.cmp .eq (.ix (.var 0) (.int 0)) (.str "part")) .nil)))))
 .nil)
theorem Z07:Yk (ck0 Tj Xg FN GN BN) b_Lbegins (Z5 Xg)=true:=by decide+kernel
noncomputable abbrev Vb:Stmt:=top 20
noncomputable def Og:List Str:=["_law_script","_law_k","_law_names_here","_law_number","_law_one","_law_other","_law_sign_here","_law_goes_here"]
theorem Za3:FnScope Og ["_law_script","_law_k","_law_names_here","_law_number"] (Z3 Vb):=⟨rfl,rfl,rfl,by decide+kernel,rfl,by decide+kernel,by decide+kernel⟩
noncomputable def Jj:Ss:=
 (.cons (.set [6] (.ix (.lst (.cons (.str "+") (.cons (.str "-") (.cons (.str "/") (.cons (.str "rest") (.cons (.str "&") (.cons (.str "^") .nil))))))) (.bin .mod (.bin .fdiv (.var 3) (.int 24)) (.int 6))))
 (.cons (.set [7] (.ix (.var 2) (.bin .mod (.bin .fdiv (.var 3) (.int 144)) (.int 5))))
 (.cons (.ret (.tup (.cons (.str "sum") (.cons (.var 7) (.cons (.var 4) (.cons (.var 6) (.cons (.var 5) .nil)))))))
 .nil)))
noncomputable def b_Ldeed:Ss:=
 (.cons (.set [4] (.call 12 (.cons (.var 0) (.cons (.var 1) (.cons (.var 2) (.cons (.bin .fdiv (.bin .mod (.bin .mul (.var 3) (.int 16807)) (.int 2147483563)) (.int 8)) .nil))))))
 (.cons (.set [5] (.call 12 (.cons (.var 0) (.cons (.bin .add (.var 1) (.int 1)) (.cons (.var 2) (.cons (.bin .fdiv (.bin .mod (.bin .mul (.var 3) (.int 39373)) (.int 2147483543)) (.int 8)) .nil))))))
 (.cons (.ite (.cmp .lt (.bin .mod (.var 3) (.int 24)) (.int 4)) (.cons (.set [6] (.ix (.lst (.cons (.str "<") (.cons (.str "=") .nil))) (.bin .mod (.bin .fdiv (.var 3) (.int 24)) (.int 2))))
 (.cons (.ret (.tup (.cons (.str "if") (.cons (.var 4) (.cons (.var 6) (.cons (.var 5) .nil))))))
 .nil)) .nil)
 Jj)))
theorem Zs4:Yk (ck0 Og Vb FN GN BN) b_Ldeed (Z5 Vb)=true:=by decide+kernel
noncomputable abbrev V8:Stmt:=top 21
noncomputable def Ov:List Str:=["_law_stack","_law_number","_law_homes","_law_rounds"]
theorem Ze7:FnScope Ov ["_law_stack","_law_number"] (Z3 V8):=⟨rfl,rfl,rfl,by decide+kernel,rfl,by decide+kernel,by decide+kernel⟩
noncomputable def N8:Ss:=
 (.cons (.ret (.tup (.cons (.str "leave") (.cons (.ix (.var 2) (.bin .mod (.bin .fdiv (.var 1) (.int 24)) (.bf .len (.cons (.var 2) .nil)))) .nil))))
 .nil)
noncomputable def Ry:Ss:=
 (.cons (.ite (.cmp .eq (.var 2) (.lst .nil)) (.cons (.ret .non)
 .nil) .nil)
 N8)
noncomputable def b_Lgoes:Ss:=
 (.cons (.set [2] (.comp ["_law_one"] [none] [0] (.seq (.var 0)) (.yes (.cmp .ge (.ix (.var 0) (.int 1)) (.int 0))) (.ix (.var 0) (.int 1))))
 (.cons (.set [3] (.comp ["_law_one"] [none] [0] (.seq (.var 0)) (.yes (.cmp .eq (.ix (.var 0) (.int 0)) (.str "round"))) (.ix (.var 0) (.int 1))))
 (.cons (.ite (.bop true (.cons (.cmp .eq (.bin .mod (.var 1) (.int 24)) (.int 16)) (.cons (.cmp .ne (.var 3) (.lst .nil)) .nil))) (.cons (.ret (.tup (.cons (.str "again") (.cons (.ix (.var 3) (.bin .mod (.bin .fdiv (.var 1) (.int 24)) (.bf .len (.cons (.var 3) .nil)))) .nil))))
 .nil) .nil)
 Ry)))
theorem Zl5:Yk (ck0 Ov V8 FN GN BN) b_Lgoes (Z5 V8)=true:=by decide+kernel
noncomputable abbrev W2:Stmt:=top 22
noncomputable def Rf:List Str:=["_law_script","_law_number"]
theorem Ba:FnScope Rf ["_law_script"] (Z3 W2):=⟨rfl,rfl,rfl,by decide+kernel,rfl,by decide+kernel,by decide+kernel⟩
noncomputable def b_Lfirst:Ss:=
 (.cons (.set [1] (.call 7 (.cons (.var 0) (.cons (.int 911) .nil))))
 (.cons (.ret (.ix (.lst (.cons (.bin .mod (.bin .fdiv (.var 1) (.int 8)) (.int 10000)) (.cons (.int 0) (.cons (.int 9999) .nil)))) (.bin .mod (.var 1) (.int 3))))
 .nil))
theorem Z90:Yk (ck0 Rf W2 FN GN BN) b_Lfirst (Z5 W2)=true:=by decide+kernel
noncomputable abbrev W5:Stmt:=top 23
noncomputable def R9:List Str:=["_law_stack","_law_number","_law_top"]
theorem Z53:FnScope R9 ["_law_stack","_law_number"] (Z3 W5):=⟨rfl,rfl,rfl,by decide+kernel,rfl,by decide+kernel,by decide+kernel⟩
noncomputable def S0:Ss:=
 (.cons (.ret (.tup (.cons (.str "done") .nil)))
 .nil)
noncomputable def b_Lclose:Ss:=
 (.cons (.set [2] (.mt .pop0 (.var 0) .nil))
 (.cons (.ite (.bop true (.cons (.cmp .eq (.ix (.var 2) (.int 0)) (.str "if")) (.cons (.cmp .gt (.bin .mod (.bin .fdiv (.var 1) (.int 24)) (.int 3)) (.int 0)) .nil))) (.cons (.expr (.mt .append (.var 0) (.cons (.tup (.cons (.str "else") (.cons (.neg (.int 1)) .nil))) .nil)))
 (.cons (.ret (.tup (.cons (.str "else") .nil)))
 .nil)) .nil)
 S0))
theorem Zg6:Yk (ck0 R9 W5 FN GN BN) b_Lclose (Z5 W5)=true:=by decide+kernel
noncomputable abbrev V5:Stmt:=top 24
noncomputable def Os:List Str:=["_law_script","_law_k","_law_names_here","_law_stack","_law_number","_law_way","_law_line"]
theorem Zh0:FnScope Os ["_law_script","_law_k","_law_names_here","_law_stack"] (Z3 V5):=⟨rfl,rfl,rfl,by decide+kernel,rfl,by decide+kernel,by decide+kernel⟩
noncomputable def Wx:Ss:=
 (.cons (.ret (.var 6))
 .nil)
noncomputable def Ru:Ss:=
 (.cons (.ite (.call 13 (.cons (.var 6) .nil)) (.cons (.expr (.mt .append (.var 3) (.cons (.tup (.cons (.ix (.var 6) (.int 0)) (.cons (.ix (.lst (.cons (.ix (.var 6) (.int 1)) (.cons (.neg (.int 1)) .nil))) (.bf .int1 (.cons (.cmp .eq (.ix (.var 6) (.int 0)) (.str "if")) .nil))) .nil))) .nil)))
 .nil) .nil)
 Wx)
noncomputable def Tg:Ss:=
 (.cons (.ite (.cmp .is (.var 6) .non) (.cons (.set [6] (.call 14 (.cons (.var 0) (.cons (.var 1) (.cons (.var 2) (.cons (.bin .add (.bin .mul (.bin .fdiv (.var 4) (.int 24)) (.int 24)) (.int 18)) .nil))))))
 .nil) .nil)
 Ru)
noncomputable def Wy:Ss:=
 (.cons (.ite (.bop true (.cons (.cmp .eq (.var 5) (.int 17)) (.cons (.cmp .ne (.var 3) (.lst .nil)) (.cons (.cmp .isin (.ix (.ix (.var 3) (.neg (.int 1))) (.int 0)) (.lst (.cons (.str "if") (.cons (.str "else") .nil)))) .nil)))) (.cons (.set [6] (.tup (.cons (.str "end") .nil)))
 .nil) .nil)
 Tg)
noncomputable def Vi:Ss:=
 (.cons (.ite (.bop true (.cons (.cmp .gt (.var 5) (.int 13)) (.cons (.cmp .lt (.var 5) (.int 17)) .nil))) (.cons (.set [6] (.call 15 (.cons (.var 3) (.cons (.var 4) .nil))))
 .nil) .nil)
 Wy)
noncomputable def Vf:Ss:=
 (.cons (.ite (.bop true (.cons (.cmp .gt (.var 5) (.int 8)) (.cons (.cmp .lt (.var 5) (.int 14)) (.cons (.cmp .ne (.var 3) (.lst .nil)) .nil)))) (.cons (.ret (.call 17 (.cons (.var 3) (.cons (.var 4) .nil))))
 .nil) .nil)
 Vi)
noncomputable def Tc:Ss:=
 (.cons (.ite (.bop true (.cons (.cmp .gt (.var 5) (.int 3)) (.cons (.cmp .lt (.var 5) (.int 9)) (.cons (.cmp .lt (.bf .len (.cons (.var 3) .nil)) (.int 60)) .nil)))) (.cons (.set [6] (.tup (.cons (.ix (.lst (.cons (.str "round") (.cons (.str "part") .nil))) (.bf .int1 (.cons (.cmp .gt (.var 5) (.int 6)) .nil))) (.cons (.bin .mod (.bin .add (.call 16 (.cons (.var 0) .nil)) (.bin .mul (.int 97) (.var 1))) (.int 10000)) .nil))))
 .nil) .nil)
 Vf)
noncomputable def b_Lstep:Ss:=
 (.cons (.set [4] (.call 7 (.cons (.var 0) (.cons (.var 1) .nil))))
 (.cons (.set [5] (.bin .mod (.var 4) (.int 24)))
 (.cons (.set [6] .non)
 (.cons (.ite (.bop true (.cons (.cmp .lt (.var 5) (.int 4)) (.cons (.cmp .lt (.bf .len (.cons (.var 3) .nil)) (.int 60)) .nil))) (.cons (.set [6] (.call 14 (.cons (.var 0) (.cons (.var 1) (.cons (.var 2) (.cons (.var 4) .nil))))))
 .nil) .nil)
 Tc))))
theorem Zs8:Yk (ck0 Os V5 FN GN BN) b_Lstep (Z5 V5)=true:=by decide+kernel
noncomputable abbrev W1:Stmt:=top 25
noncomputable def Re:List Str:=["_law_script","_law_many","_law_names_here","_law_lines_here","_law_stack","_law_k"]
theorem Z81:FnScope Re ["_law_script","_law_many"] (Z3 W1):=⟨rfl,rfl,rfl,by decide+kernel,rfl,by decide+kernel,by decide+kernel⟩
noncomputable def Pe:Ss:=
 (.cons (.ret (.var 3))
 .nil)
noncomputable def Pj:Ss:=
 (.cons (.expr (.mt .pop0 (.var 4) .nil))
 (.cons (.expr (.mt .append (.var 3) (.cons (.tup (.cons (.str "done") .nil)) .nil)))
 .nil))
noncomputable def Pl:Ss:=
 (.cons (.while_ (.cmp .ne (.var 4) (.lst .nil)) Pj)
 Pe)
noncomputable def Po:Ss:=
 (.cons (.expr (.mt .append (.var 3) (.cons (.call 18 (.cons (.var 0) (.cons (.var 5) (.cons (.var 2) (.cons (.var 4) .nil))))) .nil)))
 .nil)
noncomputable def b_Llines:Ss:=
 (.cons (.set [2] (.call 11 (.cons (.var 0) .nil)))
 (.cons (.set [3] (.lst .nil))
 (.cons (.set [4] (.lst .nil))
 (.cons (.for_ [5] (.rng1 (.var 1)) Po)
 Pl))))
theorem Zf3:Yk (ck0 Re W1 FN GN BN) b_Llines (Z5 W1)=true:=by decide+kernel
noncomputable abbrev Xh:Stmt:=top 26
noncomputable def T7:List Str:=["_law_lines_here","_law_opened","_law_line","_law_head","_law_yes","_law_now"]
theorem E9:FnScope T7 ["_law_lines_here"] (Z3 Xh):=⟨rfl,rfl,rfl,by decide+kernel,rfl,by decide+kernel,by decide+kernel⟩
noncomputable def Rz:Ss:=
 (.cons (.ret (.ix (.ix (.var 1) (.int 0)) (.int 2)))
 .nil)
noncomputable def Q2:Ss:=
 (.cons (.ite (.call 13 (.cons (.var 2) .nil)) (.cons (.expr (.mt .append (.var 1) (.cons (.lst (.cons (.var 2) (.cons .non (.cons (.lst .nil) .nil)))) .nil)))
 .nil) (.cons (.ite (.cmp .eq (.ix (.var 2) (.int 0)) (.str "else")) (.cons (.put (.ix (.var 1) (.neg (.int 1))) (.int 1) (.ix (.ix (.var 1) (.neg (.int 1))) (.int 2)))
 (.cons (.put (.ix (.var 1) (.neg (.int 1))) (.int 2) (.lst .nil))
 .nil)) (.cons (.ite (.cmp .eq (.ix (.var 2) (.int 0)) (.str "done")) (.cons (.setL [3,4,5] (.mt .pop0 (.var 1) .nil))
 (.cons (.ite (.cmp .ne (.ix (.var 3) (.int 0)) (.str "if")) (.cons (.expr (.mt .append (.ix (.ix (.var 1) (.neg (.int 1))) (.int 2)) (.cons (.bin .add (.var 3) (.tup (.cons (.var 5) .nil))) .nil)))
 .nil) (.cons (.ite (.cmp .is (.var 4) .non) (.cons (.expr (.mt .append (.ix (.ix (.var 1) (.neg (.int 1))) (.int 2)) (.cons (.bin .add (.bin .add (.tup (.cons (.str "choice") .nil)) (.sl (.var 3) (.yes (.int 1)) .no)) (.tup (.cons (.var 5) (.cons (.lst .nil) .nil)))) .nil)))
 .nil) (.cons (.expr (.mt .append (.ix (.ix (.var 1) (.neg (.int 1))) (.int 2)) (.cons (.bin .add (.bin .add (.tup (.cons (.str "choice") .nil)) (.sl (.var 3) (.yes (.int 1)) .no)) (.tup (.cons (.var 4) (.cons (.var 5) .nil)))) .nil)))
 .nil))
 .nil))
 .nil)) (.cons (.expr (.mt .append (.ix (.ix (.var 1) (.neg (.int 1))) (.int 2)) (.cons (.var 2) .nil)))
 .nil))
 .nil))
 .nil))
 .nil)
noncomputable def b_Lnested:Ss:=
 (.cons (.set [1] (.lst (.cons (.lst (.cons (.tup (.cons (.str "form") .nil)) (.cons .non (.cons (.lst .nil) .nil)))) .nil)))
 (.cons (.for_ [2] (.seq (.var 0)) Q2)
 Rz))
theorem Z36:Yk (ck0 T7 Xh FN GN BN) b_Lnested (Z5 Xh)=true:=by decide+kernel
noncomputable abbrev W3:Stmt:=top 27
noncomputable def Ra:List Str:=["_law_lines_here","_law_used","_law_stack","_law_line"]
theorem Bb:FnScope Ra ["_law_lines_here"] (Z3 W3):=⟨rfl,rfl,rfl,by decide+kernel,rfl,by decide+kernel,by decide+kernel⟩
noncomputable def Pk:Ss:=
 (.cons (.ret (.bl true))
 .nil)
noncomputable def Wf:Ss:=
 (.cons (.ite (.bop true (.cons (.cmp .eq (.ix (.var 3) (.int 0)) (.str "again")) (.cons (.cmp .notin (.tup (.cons (.str "round") (.cons (.ix (.var 3) (.int 1)) .nil))) (.var 2)) .nil))) (.cons (.ret (.bl false))
 .nil) .nil)
 .nil)
noncomputable def Xp:Ss:=
 (.cons (.ite (.bop true (.cons (.cmp .eq (.ix (.var 3) (.int 0)) (.str "leave")) (.cons (.cmp .notin (.tup (.cons (.str "round") (.cons (.ix (.var 3) (.int 1)) .nil))) (.var 2)) (.cons (.cmp .notin (.tup (.cons (.str "part") (.cons (.ix (.var 3) (.int 1)) .nil))) (.var 2)) .nil)))) (.cons (.ret (.bl false))
 .nil) .nil)
 Wf)
noncomputable def Xo:Ss:=
 (.cons (.ite (.cmp .eq (.ix (.var 3) (.int 0)) (.str "done")) (.cons (.expr (.mt .pop0 (.var 2) .nil))
 .nil) .nil)
 Xp)
noncomputable def S4:Ss:=
 (.cons (.expr (.mt .append (.var 1) (.cons (.ix (.var 3) (.int 1)) .nil)))
 .nil)
noncomputable def Yd:Ss:=
 (.cons (.ite (.bop false (.cons (.cmp .eq (.ix (.var 3) (.int 0)) (.str "round")) (.cons (.cmp .eq (.ix (.var 3) (.int 0)) (.str "part")) .nil))) (.cons (.ite (.bop false (.cons (.cmp .isin (.ix (.var 3) (.int 1)) (.var 1)) (.cons (.cmp .lt (.ix (.var 3) (.int 1)) (.int 0)) (.cons (.cmp .gt (.ix (.var 3) (.int 1)) (.int 9999)) .nil)))) (.cons (.ret (.bl false))
 .nil) .nil)
 S4) .nil)
 Xo)
noncomputable def Qt:Ss:=
 (.cons (.ite (.call 13 (.cons (.var 3) .nil)) (.cons (.expr (.mt .append (.var 2) (.cons (.slW (.var 3) .no (.yes (.int 2))) .nil)))
 .nil) .nil)
 Yd)
noncomputable def b_Lsound:Ss:=
 (.cons (.set [1] (.lst .nil))
 (.cons (.set [2] (.lst .nil))
 (.cons (.for_ [3] (.seq (.var 0)) Qt)
 Pk)))
theorem Zd4:Yk (ck0 Ra W3 FN GN BN) b_Lsound (Z5 W3)=true:=by decide+kernel
noncomputable abbrev Y0:Stmt:=top 28
noncomputable def Xm:List Str:=["_law_line"]
theorem Qi:FnScope Xm ["_law_line"] (Z3 Y0):=⟨rfl,rfl,rfl,by decide+kernel,rfl,by decide+kernel,by decide+kernel⟩
noncomputable def b_Lhas_number:Ss:=
 (.cons (.ret (.cmp .isin (.ix (.var 0) (.int 0)) (.lst (.cons (.str "round") (.cons (.str "part") (.cons (.str "leave") (.cons (.str "again") .nil)))))))
 .nil)
theorem O2:Yk (ck0 Xm Y0 FN GN BN) b_Lhas_number (Z5 Y0)=true:=by decide+kernel
noncomputable abbrev Y9:Stmt:=top 29
noncomputable def W0:List Str:=["_law_script","_law_lines_here","_law_number","_law_homes","_law_some"]
theorem Pq:FnScope W0 ["_law_script","_law_lines_here","_law_number"] (Z3 Y9):=⟨rfl,rfl,rfl,by decide+kernel,rfl,by decide+kernel,by decide+kernel⟩
noncomputable def W9:Ss:=
 (.cons (.ret (.ix (.var 4) (.bin .mod (.bin .fdiv (.var 2) (.int 16)) (.int 5))))
 .nil)
noncomputable def b_Lnumber_by:Ss:=
 (.cons (.set [3] (.comp ["_law_line"] [none] [0] (.seq (.var 1)) (.yes (.bop false (.cons (.cmp .eq (.ix (.var 0) (.int 0)) (.str "round")) (.cons (.cmp .eq (.ix (.var 0) (.int 0)) (.str "part")) .nil)))) (.ix (.var 0) (.int 1))))
 (.cons (.set [4] (.lst (.cons (.neg (.int 1)) (.cons (.int 10000) (.cons (.int 0) (.cons (.int 9999) (.cons (.bin .sub (.bin .mod (.call 6 (.cons (.var 0) (.cons (.int 7) .nil))) (.bin .add (.bin .mul (.int 2) (.bin .pow (.int 10) (.int 18))) (.int 1))) (.bin .pow (.int 10) (.int 18))) .nil)))))))
 (.cons (.ite (.bop true (.cons (.cmp .eq (.bin .mod (.bin .fdiv (.var 2) (.int 8)) (.int 2)) (.int 0)) (.cons (.cmp .ne (.var 3) (.lst .nil)) .nil))) (.cons (.ret (.ix (.var 3) (.bin .mod (.bin .fdiv (.var 2) (.int 16)) (.bf .len (.cons (.var 3) .nil)))))
 .nil) .nil)
 W9)))
theorem Nb:Yk (ck0 W0 Y9 FN GN BN) b_Lnumber_by (Z5 Y9)=true:=by decide+kernel
noncomputable abbrev Yz:Stmt:=top 30
noncomputable def Vl:List Str:=["_law_script","_law_lines_here","_law_number","_law_places","_law_at","_law_old","_law_new","_law_found","_law_line","_law_turned"]
theorem G2:FnScope Vl ["_law_script","_law_lines_here","_law_number"] (Z3 Yz):=⟨rfl,rfl,rfl,by decide+kernel,rfl,by decide+kernel,by decide+kernel⟩
noncomputable def Sq:Ss:=
 (.cons (.set [9] (.dctS [("round","part"),("part","round"),("leave","again"),("again","leave")]))
 (.cons (.ret (.bin .add (.bin .add (.sl (.var 1) .no (.yes (.var 4))) (.lst (.cons (.tup (.cons (.ix (.var 9) (.ix (.var 5) (.int 0))) (.cons (.ix (.var 5) (.int 1)) .nil))) .nil))) (.sl (.var 1) (.yes (.bin .add (.var 4) (.int 1))) .no)))
 .nil))
noncomputable def Sl:Ss:=
 (.cons (.ite (.cmp .eq (.bin .mod (.var 2) (.int 4)) (.int 2)) (.cons (.ret (.bin .add (.bin .add (.sl (.var 1) .no (.yes (.var 4))) (.lst (.cons (.tup (.cons (.ix (.var 5) (.int 0)) (.cons (.var 6) .nil))) .nil))) (.sl (.var 1) (.yes (.bin .add (.var 4) (.int 1))) .no)))
 .nil) .nil)
 Sq)
noncomputable def Sy:Ss:=
 (.cons (.ret (.var 7))
 .nil)
noncomputable def Sm:Ss:=
 (.cons (.ite (.bop true (.cons (.call 22 (.cons (.var 8) .nil)) (.cons (.cmp .eq (.ix (.var 8) (.int 1)) (.ix (.var 5) (.int 1))) .nil))) (.cons (.expr (.mt .append (.var 7) (.cons (.tup (.cons (.ix (.var 8) (.int 0)) (.cons (.var 6) .nil))) .nil)))
 .nil) (.cons (.expr (.mt .append (.var 7) (.cons (.var 8) .nil)))
 .nil))
 .nil)
noncomputable def Sx:Ss:=
 (.cons (.set [4] (.ix (.var 3) (.bin .mod (.bin .fdiv (.var 2) (.int 8)) (.bf .len (.cons (.var 3) .nil)))))
 (.cons (.set [5] (.ix (.var 1) (.var 4)))
 (.cons (.set [6] (.call 23 (.cons (.var 0) (.cons (.var 1) (.cons (.bin .mod (.bin .mul (.var 2) (.int 16807)) (.int 2147483563)) .nil)))))
 (.cons (.ite (.cmp .lt (.bin .mod (.var 2) (.int 4)) (.int 2)) (.cons (.set [7] (.lst .nil))
 (.cons (.for_ [8] (.seq (.var 1)) Sm)
 Sy)) .nil)
 Sl))))
noncomputable def b_Lchanged:Ss:=
 (.cons (.set [3] (.comp ["_law_k","_law_lines_here"] [none,(some 1)] [0] (.rng1 (.bf .len (.cons (.var 1) .nil))) (.yes (.call 22 (.cons (.ix (.var 1) (.var 0)) .nil))) (.var 0)))
 (.cons (.ite (.cmp .eq (.var 3) (.lst .nil)) (.cons (.ret (.var 1))
 .nil) .nil)
 Sx))
theorem Ey:Yk (ck0 Vl Yz FN GN BN) b_Lchanged (Z5 Yz)=true:=by decide+kernel
noncomputable abbrev W4:Stmt:=top 31
noncomputable def W7:List Str:=["_law_found","_law_due","_law_one","_law_other"]
theorem Nq:FnScope W7 ["_law_found","_law_due"] (Z3 W4):=⟨rfl,rfl,rfl,by decide+kernel,rfl,by decide+kernel,by decide+kernel⟩
noncomputable def Pc:Ss:=
 (.cons (.ret (.bl true))
 .nil)
noncomputable def Qm:Ss:=
 (.cons (.ite (.not (.call 25 (.cons (.var 2) (.cons (.var 3) .nil)))) (.cons (.ret (.bl false))
 .nil) .nil)
 .nil)
noncomputable def Qr:Ss:=
 (.cons (.for_ [2,3] (.zip (.cons (.var 0) (.cons (.var 1) .nil))) Qm)
 Pc)
noncomputable def Tu:Ss:=
 (.cons (.ite (.cmp .ne (.bf .len (.cons (.var 0) .nil)) (.bf .len (.cons (.var 1) .nil))) (.cons (.ret (.bl false))
 .nil) .nil)
 Qr)
noncomputable def S9:Ss:=
 (.cons (.ite (.bop true (.cons (.bf .isinst (.cons (.var 1) (.cons (.ty .tuple) .nil))) (.cons (.not (.bf .isinst (.cons (.var 0) (.cons (.ty .tuple) .nil)))) .nil))) (.cons (.ret (.bl false))
 .nil) .nil)
 Tu)
noncomputable def S5:Ss:=
 (.cons (.ite (.bop true (.cons (.bf .isinst (.cons (.var 1) (.cons (.ty .list) .nil))) (.cons (.not (.bf .isinst (.cons (.var 0) (.cons (.ty .list) .nil)))) .nil))) (.cons (.ret (.bl false))
 .nil) .nil)
 S9)
noncomputable def Vn:Ss:=
 (.cons (.ite (.bf .isinst (.cons (.var 1) (.cons (.ty .str) .nil))) (.cons (.ret (.bop true (.cons (.bf .isinst (.cons (.var 0) (.cons (.ty .str) .nil))) (.cons (.cmp .eq (.var 0) (.var 1)) .nil))))
 .nil) .nil)
 S5)
noncomputable def Wg:Ss:=
 (.cons (.ite (.bf .isinst (.cons (.var 1) (.cons (.ty .int) .nil))) (.cons (.ret (.bop true (.cons (.bf .isinst (.cons (.var 0) (.cons (.ty .int) .nil))) (.cons (.not (.bf .isinst (.cons (.var 0) (.cons (.ty .bool) .nil)))) (.cons (.cmp .eq (.var 0) (.var 1)) .nil)))))
 .nil) .nil)
 Vn)
noncomputable def b_Lalike:Ss:=
 (.cons (.ite (.bf .isinst (.cons (.var 1) (.cons (.ty .bool) .nil))) (.cons (.ret (.bop true (.cons (.bf .isinst (.cons (.var 0) (.cons (.ty .bool) .nil))) (.cons (.cmp .eq (.var 0) (.var 1)) .nil))))
 .nil) .nil)
 Wg)
theorem Fb:Yk (ck0 W7 W4 FN GN BN) b_Lalike (Z5 W4)=true:=by decide+kernel
noncomputable abbrev X0:Stmt:=top 32
noncomputable def Vp:List Str:=["_law_form","_law_due","_law_found"]
theorem Gf:FnScope Vp ["_law_form","_law_due"] (Z3 X0):=⟨rfl,rfl,rfl,by decide+kernel,rfl,by decide+kernel,by decide+kernel⟩
noncomputable def b_Ltold_so:Ss:=
 (.cons (.set [2] (.call 5 (.cons (.var 0) .nil)))
 (.cons (.ret (.bop true (.cons (.bf .isinst (.cons (.var 2) (.cons (.ty .bool) .nil))) (.cons (.cmp .eq (.var 2) (.var 1)) .nil))))
 .nil))
theorem Em:Yk (ck0 Vp X0 FN GN BN) b_Ltold_so (Z5 X0)=true:=by decide+kernel
noncomputable abbrev Nl:Stmt:=top 33
noncomputable def Zb3:List Str:=["_law_script","_law_lines_here","_law_way","_law_due","_law_handed","_law_at"]
theorem Zz9:FnScope Zb3 ["_law_script"] (Z3 Nl):=⟨rfl,rfl,rfl,by decide+kernel,rfl,by decide+kernel,by decide+kernel⟩
noncomputable def Z57:Ss:=
 (.cons (.expr (.mt .pop0 (.var 4) .nil))
 (.cons (.ret (.bop true (.cons (.call 26 (.cons (.var 4) (.cons (.var 3) .nil))) (.cons (.call 26 (.cons (.lst .nil) (.cons (.bl true) .nil))) .nil))))
 .nil))
noncomputable def Z43:Ss:=
 (.cons (.expr (.mt .popi (.var 4) (.cons (.var 5) .nil)))
 (.cons (.expr (.mt .append (.var 4) (.cons (.tup (.cons (.str "round") (.cons (.int 10001) (.cons (.lst .nil) .nil)))) .nil)))
 (.cons (.ite (.not (.call 26 (.cons (.var 4) (.cons (.bl false) .nil)))) (.cons (.ret (.bl false))
 .nil) .nil)
 Z57)))
noncomputable def G0:Ss:=
 (.cons (.set [5] (.bin .mod (.bin .fdiv (.call 7 (.cons (.var 0) (.cons (.int 933) .nil))) (.int 8)) (.bin .add (.bf .len (.cons (.var 4) .nil)) (.int 1))))
 (.cons (.expr (.mt .insi (.var 4) (.cons (.var 5) (.cons (.tup (.cons (.str "leave") (.cons (.bin .mod (.call 7 (.cons (.var 0) (.cons (.int 934) .nil))) (.int 10000)) .nil))) .nil))))
 (.cons (.ite (.not (.call 26 (.cons (.var 4) (.cons (.bl false) .nil)))) (.cons (.ret (.bl false))
 .nil) .nil)
 Z43)))
noncomputable def G8:Ss:=
 (.cons (.set [3] (.call 21 (.cons (.var 1) .nil)))
 (.cons (.set [4] (.call 20 (.cons (.var 1) .nil)))
 (.cons (.ite (.bop false (.cons (.not (.call 26 (.cons (.var 4) (.cons (.var 3) .nil)))) (.cons (.not (.call 25 (.cons (.var 4) (.cons (.call 20 (.cons (.var 1) .nil)) .nil)))) .nil))) (.cons (.ret (.bl false))
 .nil) .nil)
 G0)))
noncomputable def Jq:Ss:=
 (.cons (.ite (.cmp .eq (.var 2) (.int 3)) (.cons (.set [1] (.call 24 (.cons (.var 0) (.cons (.var 1) (.cons (.call 7 (.cons (.var 0) (.cons (.int 932) .nil))) .nil)))))
 .nil) .nil)
 G8)
noncomputable def b_law:Ss:=
 (.cons (.set [1] (.call 19 (.cons (.var 0) (.cons (.bf .max2 (.cons (.int 1) (.cons (.bf .min2 (.cons (.bf .len (.cons (.var 0) .nil)) (.cons (.int 60) .nil))) .nil))) .nil))))
 (.cons (.set [2] (.bin .mod (.bin .fdiv (.call 7 (.cons (.var 0) (.cons (.int 930) .nil))) (.int 8)) (.int 4)))
 (.cons (.ite (.cmp .gt (.var 2) (.int 1)) (.cons (.set [1] (.call 24 (.cons (.var 0) (.cons (.var 1) (.cons (.call 7 (.cons (.var 0) (.cons (.int 931) .nil))) .nil)))))
 .nil) .nil)
 Jq)))
theorem Y28:Yk (ck0 Zb3 Nl FN GN BN) b_law (Z5 Nl)=true:=by decide+kernel
set_option genInjectivity false in
structure Adr where
 mk::
 a_line_of:Addr
 d_line_of:FuncData
 a_told_within:Addr
 d_told_within:FuncData
 a_lines_of:Addr
 d_lines_of:FuncData
 a_is_within:Addr
 d_is_within:FuncData
 a_keep_within:Addr
 d_keep_within:FuncData
 a_sound:Addr
 d_sound:FuncData
 a_Lraw:Addr
 d_Lraw:FuncData
 a_Lmix:Addr
 d_Lmix:FuncData
 a_Lkept:Addr
 d_Lkept:FuncData
 a_Lsign:Addr
 d_Lsign:FuncData
 a_Lword:Addr
 d_Lword:FuncData
 a_Lnames:Addr
 d_Lnames:FuncData
 a_Loperand:Addr
 d_Loperand:FuncData
 a_Lbegins:Addr
 d_Lbegins:FuncData
 a_Ldeed:Addr
 d_Ldeed:FuncData
 a_Lgoes:Addr
 d_Lgoes:FuncData
 a_Lfirst:Addr
 d_Lfirst:FuncData
 a_Lclose:Addr
 d_Lclose:FuncData
 a_Lstep:Addr
 d_Lstep:FuncData
 a_Llines:Addr
 d_Llines:FuncData
 a_Lnested:Addr
 d_Lnested:FuncData
 a_Lsound:Addr
 d_Lsound:FuncData
 a_Lhas_number:Addr
 d_Lhas_number:FuncData
 a_Lnumber_by:Addr
 d_Lnumber_by:FuncData
 a_Lchanged:Addr
 d_Lchanged:FuncData
 a_Lalike:Addr
 d_Lalike:FuncData
 a_Ltold_so:Addr
 d_Ltold_so:FuncData
 a_law:Addr
 d_law:FuncData
structure Tx(K:PySem.W.Frag)(mg:Str→Option Value)(t:Adr):Prop where
 mk::
 F_line_of:Fun K "line_of" "line_of" Xi t.a_line_of t.d_line_of
 g_line_of:mg "line_of"=some (.ref t.a_line_of)
 k_line_of:PySem.W.keepIn K (.ref t.a_line_of)=true
 b_line_of:Ye K t.d_line_of ["statement"] []
 F_told_within:Fun K "told_within" "told_within" Y1 t.a_told_within t.d_told_within
 g_told_within:mg "told_within"=some (.ref t.a_told_within)
 k_told_within:PySem.W.keepIn K (.ref t.a_told_within)=true
 b_told_within:Ye K t.d_told_within ["statement"] []
 F_lines_of:Fun K "lines_of" "lines_of" Yy t.a_lines_of t.d_lines_of
 g_lines_of:mg "lines_of"=some (.ref t.a_lines_of)
 k_lines_of:PySem.W.keepIn K (.ref t.a_lines_of)=true
 b_lines_of:Ye K t.d_lines_of ["form"] []
 F_is_within:Fun K "is_within" "is_within" Yl t.a_is_within t.d_is_within
 g_is_within:mg "is_within"=some (.ref t.a_is_within)
 k_is_within:PySem.W.keepIn K (.ref t.a_is_within)=true
 b_is_within:Ye K t.d_is_within ["line","opened"] []
 F_keep_within:Fun K "keep_within" "keep_within" Y2 t.a_keep_within t.d_keep_within
 g_keep_within:mg "keep_within"=some (.ref t.a_keep_within)
 k_keep_within:PySem.W.keepIn K (.ref t.a_keep_within)=true
 b_keep_within:Ye K t.d_keep_within ["lines"] []
 F_sound:Fun K "sound" "sound" Vj t.a_sound t.d_sound
 g_sound:mg "sound"=some (.ref t.a_sound)
 k_sound:PySem.W.keepIn K (.ref t.a_sound)=true
 b_sound:Ye K t.d_sound ["form"] []
 F_Lraw:Fun K "_law_raw" "_law_raw" Sv t.a_Lraw t.d_Lraw
 g_Lraw:mg "_law_raw"=some (.ref t.a_Lraw)
 k_Lraw:PySem.W.keepIn K (.ref t.a_Lraw)=true
 b_Lraw:Ye K t.d_Lraw ["_law_script","_law_k"] []
 F_Lmix:Fun K "_law_mix" "_law_mix" R0 t.a_Lmix t.d_Lmix
 g_Lmix:mg "_law_mix"=some (.ref t.a_Lmix)
 k_Lmix:PySem.W.keepIn K (.ref t.a_Lmix)=true
 b_Lmix:Ye K t.d_Lmix ["_law_script","_law_k"] []
 F_Lkept:Fun K "_law_kept" "_law_kept" V4 t.a_Lkept t.d_Lkept
 g_Lkept:mg "_law_kept"=some (.ref t.a_Lkept)
 k_Lkept:PySem.W.keepIn K (.ref t.a_Lkept)=true
 b_Lkept:Ye K t.d_Lkept [] []
 F_Lsign:Fun K "_law_sign" "_law_sign" V9 t.a_Lsign t.d_Lsign
 g_Lsign:mg "_law_sign"=some (.ref t.a_Lsign)
 k_Lsign:PySem.W.keepIn K (.ref t.a_Lsign)=true
 b_Lsign:Ye K t.d_Lsign ["_law_number","_law_first_here"] []
 F_Lword:Fun K "_law_word" "_law_word" V1 t.a_Lword t.d_Lword
 g_Lword:mg "_law_word"=some (.ref t.a_Lword)
 k_Lword:PySem.W.keepIn K (.ref t.a_Lword)=true
 b_Lword:Ye K t.d_Lword ["_law_number","_law_size"] []
 F_Lnames:Fun K "_law_names" "_law_names" Xz t.a_Lnames t.d_Lnames
 g_Lnames:mg "_law_names"=some (.ref t.a_Lnames)
 k_Lnames:PySem.W.keepIn K (.ref t.a_Lnames)=true
 b_Lnames:Ye K t.d_Lnames ["_law_script"] []
 F_Loperand:Fun K "_law_operand" "_law_operand" X2 t.a_Loperand t.d_Loperand
 g_Loperand:mg "_law_operand"=some (.ref t.a_Loperand)
 k_Loperand:PySem.W.keepIn K (.ref t.a_Loperand)=true
 b_Loperand:Ye K t.d_Loperand ["_law_script","_law_k","_law_names_here","_law_number"] []
 F_Lbegins:Fun K "_law_begins" "_law_begins" Xg t.a_Lbegins t.d_Lbegins
 g_Lbegins:mg "_law_begins"=some (.ref t.a_Lbegins)
 k_Lbegins:PySem.W.keepIn K (.ref t.a_Lbegins)=true
 b_Lbegins:Ye K t.d_Lbegins ["_law_line"] []
 F_Ldeed:Fun K "_law_deed" "_law_deed" Vb t.a_Ldeed t.d_Ldeed
 g_Ldeed:mg "_law_deed"=some (.ref t.a_Ldeed)
 k_Ldeed:PySem.W.keepIn K (.ref t.a_Ldeed)=true
 b_Ldeed:Ye K t.d_Ldeed ["_law_script","_law_k","_law_names_here","_law_number"] []
 F_Lgoes:Fun K "_law_goes" "_law_goes" V8 t.a_Lgoes t.d_Lgoes
 g_Lgoes:mg "_law_goes"=some (.ref t.a_Lgoes)
 k_Lgoes:PySem.W.keepIn K (.ref t.a_Lgoes)=true
 b_Lgoes:Ye K t.d_Lgoes ["_law_stack","_law_number"] []
 F_Lfirst:Fun K "_law_first" "_law_first" W2 t.a_Lfirst t.d_Lfirst
 g_Lfirst:mg "_law_first"=some (.ref t.a_Lfirst)
 k_Lfirst:PySem.W.keepIn K (.ref t.a_Lfirst)=true
 b_Lfirst:Ye K t.d_Lfirst ["_law_script"] []
 F_Lclose:Fun K "_law_close" "_law_close" W5 t.a_Lclose t.d_Lclose
 g_Lclose:mg "_law_close"=some (.ref t.a_Lclose)
 k_Lclose:PySem.W.keepIn K (.ref t.a_Lclose)=true
 b_Lclose:Ye K t.d_Lclose ["_law_stack","_law_number"] []
 F_Lstep:Fun K "_law_step" "_law_step" V5 t.a_Lstep t.d_Lstep
 g_Lstep:mg "_law_step"=some (.ref t.a_Lstep)
 k_Lstep:PySem.W.keepIn K (.ref t.a_Lstep)=true
 b_Lstep:Ye K t.d_Lstep ["_law_script","_law_k","_law_names_here","_law_stack"] []
 F_Llines:Fun K "_law_lines" "_law_lines" W1 t.a_Llines t.d_Llines
 g_Llines:mg "_law_lines"=some (.ref t.a_Llines)
 k_Llines:PySem.W.keepIn K (.ref t.a_Llines)=true
 b_Llines:Ye K t.d_Llines ["_law_script","_law_many"] []
 F_Lnested:Fun K "_law_nested" "_law_nested" Xh t.a_Lnested t.d_Lnested
 g_Lnested:mg "_law_nested"=some (.ref t.a_Lnested)
 k_Lnested:PySem.W.keepIn K (.ref t.a_Lnested)=true
 b_Lnested:Ye K t.d_Lnested ["_law_lines_here"] []
 F_Lsound:Fun K "_law_sound" "_law_sound" W3 t.a_Lsound t.d_Lsound
 g_Lsound:mg "_law_sound"=some (.ref t.a_Lsound)
 k_Lsound:PySem.W.keepIn K (.ref t.a_Lsound)=true
 b_Lsound:Ye K t.d_Lsound ["_law_lines_here"] []
 F_Lhas_number:Fun K "_law_has_number" "_law_has_number" Y0 t.a_Lhas_number t.d_Lhas_number
 g_Lhas_number:mg "_law_has_number"=some (.ref t.a_Lhas_number)
 k_Lhas_number:PySem.W.keepIn K (.ref t.a_Lhas_number)=true
 b_Lhas_number:Ye K t.d_Lhas_number ["_law_line"] []
 F_Lnumber_by:Fun K "_law_number_by" "_law_number_by" Y9 t.a_Lnumber_by t.d_Lnumber_by
 g_Lnumber_by:mg "_law_number_by"=some (.ref t.a_Lnumber_by)
 k_Lnumber_by:PySem.W.keepIn K (.ref t.a_Lnumber_by)=true
 b_Lnumber_by:Ye K t.d_Lnumber_by ["_law_script","_law_lines_here","_law_number"] []
 F_Lchanged:Fun K "_law_changed" "_law_changed" Yz t.a_Lchanged t.d_Lchanged
 g_Lchanged:mg "_law_changed"=some (.ref t.a_Lchanged)
 k_Lchanged:PySem.W.keepIn K (.ref t.a_Lchanged)=true
 b_Lchanged:Ye K t.d_Lchanged ["_law_script","_law_lines_here","_law_number"] []
 F_Lalike:Fun K "_law_alike" "_law_alike" W4 t.a_Lalike t.d_Lalike
 g_Lalike:mg "_law_alike"=some (.ref t.a_Lalike)
 k_Lalike:PySem.W.keepIn K (.ref t.a_Lalike)=true
 b_Lalike:Ye K t.d_Lalike ["_law_found","_law_due"] []
 F_Ltold_so:Fun K "_law_told_so" "_law_told_so" X0 t.a_Ltold_so t.d_Ltold_so
 g_Ltold_so:mg "_law_told_so"=some (.ref t.a_Ltold_so)
 k_Ltold_so:PySem.W.keepIn K (.ref t.a_Ltold_so)=true
 b_Ltold_so:Ye K t.d_Ltold_so ["_law_form","_law_due"] []
 F_law:Fun K "law" "law" Nl t.a_law t.d_law
 g_law:mg "law"=some (.ref t.a_law)
 k_law:PySem.W.keepIn K (.ref t.a_law)=true
 b_law:Ye K t.d_law ["_law_script"] []
 z_list:mg "list"=none
 z_reversed:mg "reversed"=none
 z_any:mg "any"=none
 z_len:mg "len"=none
 z_set:mg "set"=none
 z_range:mg "range"=none
 z_int:mg "int"=none
 z_zip:mg "zip"=none
 z_isinstance:mg "isinstance"=none
 z_tuple:mg "tuple"=none
 z_str:mg "str"=none
 z_bool:mg "bool"=none
 z_max:mg "max"=none
 z_min:mg "min"=none
 q_ELSE:∃a,mg "ELSE"=some (.ref a)∧∃(o:Obj) (its:Array Value) (n:Nat),K.lookup a=some o∧o.cls= .type "tuple"∧o.data= .seq its n∧its.size≤sizeLine∧Vals [.str "else"] its.toList
 q_DONE:∃a,mg "DONE"=some (.ref a)∧∃(o:Obj) (its:Array Value) (n:Nat),K.lookup a=some o∧o.cls= .type "tuple"∧o.data= .seq its n∧its.size≤sizeLine∧Vals [.str "done"] its.toList
 q_OPENERS:∃a,mg "OPENERS"=some (.ref a)∧∃(o:Obj) (its:Array Value) (n:Nat),K.lookup a=some o∧o.cls= .type "tuple"∧o.data= .seq its n∧its.size≤sizeLine∧Vals [.str "choice",.str "round",.str "part"] its.toList
 q_MOST_NUMBER:∃tk,mg "MOST_NUMBER"=some (.int 9999 tk)
theorem ents{K:PySem.W.Frag}{mg:Str→Option Value}{t:Adr}(T:Tx K mg t):∀x∈FN,Ent K mg x:=
 all_cons ⟨_,_,_,T.g_line_of,T.k_line_of,T.b_line_of⟩ (all_cons ⟨_,_,_,T.g_told_within,T.k_told_within,T.b_told_within⟩ (all_cons ⟨_,_,_,T.g_lines_of,T.k_lines_of,T.b_lines_of⟩ (all_cons ⟨_,_,_,T.g_is_within,T.k_is_within,T.b_is_within⟩ (all_cons ⟨_,_,_,T.g_keep_within,T.k_keep_within,T.b_keep_within⟩ (all_cons ⟨_,_,_,T.g_sound,T.k_sound,T.b_sound⟩ (all_cons ⟨_,_,_,T.g_Lraw,T.k_Lraw,T.b_Lraw⟩ (all_cons ⟨_,_,_,T.g_Lmix,T.k_Lmix,T.b_Lmix⟩ (all_cons ⟨_,_,_,T.g_Lkept,T.k_Lkept,T.b_Lkept⟩ (all_cons ⟨_,_,_,T.g_Lsign,T.k_Lsign,T.b_Lsign⟩ (all_cons ⟨_,_,_,T.g_Lword,T.k_Lword,T.b_Lword⟩ (all_cons ⟨_,_,_,T.g_Lnames,T.k_Lnames,T.b_Lnames⟩ (all_cons ⟨_,_,_,T.g_Loperand,T.k_Loperand,T.b_Loperand⟩ (all_cons ⟨_,_,_,T.g_Lbegins,T.k_Lbegins,T.b_Lbegins⟩ (all_cons ⟨_,_,_,T.g_Ldeed,T.k_Ldeed,T.b_Ldeed⟩ (all_cons ⟨_,_,_,T.g_Lgoes,T.k_Lgoes,T.b_Lgoes⟩ (all_cons ⟨_,_,_,T.g_Lfirst,T.k_Lfirst,T.b_Lfirst⟩ (all_cons ⟨_,_,_,T.g_Lclose,T.k_Lclose,T.b_Lclose⟩ (all_cons ⟨_,_,_,T.g_Lstep,T.k_Lstep,T.b_Lstep⟩ (all_cons ⟨_,_,_,T.g_Llines,T.k_Llines,T.b_Llines⟩ (all_cons ⟨_,_,_,T.g_Lnested,T.k_Lnested,T.b_Lnested⟩ (all_cons ⟨_,_,_,T.g_Lsound,T.k_Lsound,T.b_Lsound⟩ (all_cons ⟨_,_,_,T.g_Lhas_number,T.k_Lhas_number,T.b_Lhas_number⟩ (all_cons ⟨_,_,_,T.g_Lnumber_by,T.k_Lnumber_by,T.b_Lnumber_by⟩ (all_cons ⟨_,_,_,T.g_Lchanged,T.k_Lchanged,T.b_Lchanged⟩ (all_cons ⟨_,_,_,T.g_Lalike,T.k_Lalike,T.b_Lalike⟩ (all_cons ⟨_,_,_,T.g_Ltold_so,T.k_Ltold_so,T.b_Ltold_so⟩ (all_cons ⟨_,_,_,T.g_law,T.k_law,T.b_law⟩ Z33)))))))))))))))))))))))))))
theorem blts{K:PySem.W.Frag}{mg:Str→Option Value}{t:Adr}(T:Tx K mg t):∀x∈BN,mg x=none:=
 all_cons T.z_list (all_cons T.z_reversed (all_cons T.z_any (all_cons T.z_len (all_cons T.z_set (all_cons T.z_range (all_cons T.z_int (all_cons T.z_zip (all_cons T.z_isinstance (all_cons T.z_tuple (all_cons T.z_str (all_cons T.z_bool (all_cons T.z_max (all_cons T.z_min Z33)))))))))))))
set_option maxHeartbeats 0 in
theorem Y41{K:PySem.W.Frag}{h:Heap}{mg:Str→Option Value}{f0 f1 f2 f3 f4 f5 f6 f7 f8 f9 f10 f11 f12 f13 f14 f15 f16 f17 f18 f19 f20 f21 f22 f23 f24 f25 f26 f27:Addr}(X:K.In h)(G:h.Ns mainGlobals mg)
  {od0 an0 od1 an1 od2 an2 od3 an3 od4 an4 od5 an5 od6 an6 od7 an7 od8 an8 od9 an9 od10 an10 od11 an11 od12 an12 od13 an13 od14 an14 od15 an15 od16 an16 od17 an17 od18 an18 od19 an19 od20 an20 od21 an21 od22 an22 od23 an23 od24 an24 od25 an25 od26 an26 od27 an27:Option Addr} {sl0 sl1 sl2 sl3 sl4 sl5 sl6 sl7 sl8 sl9 sl10 sl11 sl12 sl13 sl14 sl15 sl16 sl17 sl18 sl19 sl20 sl21 sl22 sl23 sl24 sl25 sl26 sl27:Array (Option Value)} {oc0 kV0 dc0 pm0 cd0 ct0 oc1 kV1 dc1 pm1 cd1 ct1 oc2 kV2 dc2 pm2 cd2 ct2 oc3 kV3 dc3 pm3 cd3 ct3 oc4 kV4 dc4 pm4 cd4 ct4 oc5 kV5 dc5 pm5 cd5 ct5 oc6 kV6 dc6 pm6 cd6 ct6 oc7 kV7 dc7 pm7 cd7 ct7 oc8 kV8 dc8 pm8 cd8 ct8 oc9 kV9 dc9 pm9 cd9 ct9 oc10 kV10 dc10 pm10 cd10 ct10 oc11 kV11 dc11 pm11 cd11 ct11 oc12 kV12 dc12 pm12 cd12 ct12 oc13 kV13 dc13 pm13 cd13 ct13 oc14 kV14 dc14 pm14 cd14 ct14 oc15 kV15 dc15 pm15 cd15 ct15 oc16 kV16 dc16 pm16 cd16 ct16 oc17 kV17 dc17 pm17 cd17 ct17 oc18 kV18 dc18 pm18 cd18 ct18 oc19 kV19 dc19 pm19 cd19 ct19 oc20 kV20 dc20 pm20 cd20 ct20 oc21 kV21 dc21 pm21 cd21 ct21 oc22 kV22 dc22 pm22 cd22 ct22 oc23 kV23 dc23 pm23 cd23 ct23 oc24 kV24 dc24 pm24 cd24 ct24 oc25 kV25 dc25 pm25 cd25 ct25 oc26 kV26 dc26 pm26 cd26 ct26 oc27 kV27 dc27 pm27 cd27 ct27:Value}
  (a0:PySem.W.nsIn K mainGlobals "line_of"=some (some (.ref f0))) (l0:K.lookup f0=some ⟨oc0,od0,.func (PySem.W.fnOf "line_of" "line_of" (Zn Xi) (Z5 Xi) (Z3 Xi) .none kV0 dc0 pm0 an0 cd0 ct0),sl0⟩) (c0:PySem.W.codeIn K cd0 "line_of"=true) (k0:PySem.W.keepIn K (.ref f0)=true)
  (a1:PySem.W.nsIn K mainGlobals "told_within"=some (some (.ref f1))) (l1:K.lookup f1=some ⟨oc1,od1,.func (PySem.W.fnOf "told_within" "told_within" (Zn Y1) (Z5 Y1) (Z3 Y1) .none kV1 dc1 pm1 an1 cd1 ct1),sl1⟩) (c1:PySem.W.codeIn K cd1 "told_within"=true) (k1:PySem.W.keepIn K (.ref f1)=true)
  (a2:PySem.W.nsIn K mainGlobals "lines_of"=some (some (.ref f2))) (l2:K.lookup f2=some ⟨oc2,od2,.func (PySem.W.fnOf "lines_of" "lines_of" (Zn Yy) (Z5 Yy) (Z3 Yy) .none kV2 dc2 pm2 an2 cd2 ct2),sl2⟩) (c2:PySem.W.codeIn K cd2 "lines_of"=true) (k2:PySem.W.keepIn K (.ref f2)=true)
  (a3:PySem.W.nsIn K mainGlobals "is_within"=some (some (.ref f3))) (l3:K.lookup f3=some ⟨oc3,od3,.func (PySem.W.fnOf "is_within" "is_within" (Zn Yl) (Z5 Yl) (Z3 Yl) .none kV3 dc3 pm3 an3 cd3 ct3),sl3⟩) (c3:PySem.W.codeIn K cd3 "is_within"=true) (k3:PySem.W.keepIn K (.ref f3)=true)
  (a4:PySem.W.nsIn K mainGlobals "keep_within"=some (some (.ref f4))) (l4:K.lookup f4=some ⟨oc4,od4,.func (PySem.W.fnOf "keep_within" "keep_within" (Zn Y2) (Z5 Y2) (Z3 Y2) .none kV4 dc4 pm4 an4 cd4 ct4),sl4⟩) (c4:PySem.W.codeIn K cd4 "keep_within"=true) (k4:PySem.W.keepIn K (.ref f4)=true)
  (a5:PySem.W.nsIn K mainGlobals "sound"=some (some (.ref f5))) (l5:K.lookup f5=some ⟨oc5,od5,.func (PySem.W.fnOf "sound" "sound" (Zn Vj) (Z5 Vj) (Z3 Vj) .none kV5 dc5 pm5 an5 cd5 ct5),sl5⟩) (c5:PySem.W.codeIn K cd5 "sound"=true) (k5:PySem.W.keepIn K (.ref f5)=true)
  (a6:PySem.W.nsIn K mainGlobals "_law_raw"=some (some (.ref f6))) (l6:K.lookup f6=some ⟨oc6,od6,.func (PySem.W.fnOf "_law_raw" "_law_raw" (Zn Sv) (Z5 Sv) (Z3 Sv) .none kV6 dc6 pm6 an6 cd6 ct6),sl6⟩) (c6:PySem.W.codeIn K cd6 "_law_raw"=true) (k6:PySem.W.keepIn K (.ref f6)=true)
  (a7:PySem.W.nsIn K mainGlobals "_law_mix"=some (some (.ref f7))) (l7:K.lookup f7=some ⟨oc7,od7,.func (PySem.W.fnOf "_law_mix" "_law_mix" (Zn R0) (Z5 R0) (Z3 R0) .none kV7 dc7 pm7 an7 cd7 ct7),sl7⟩) (c7:PySem.W.codeIn K cd7 "_law_mix"=true) (k7:PySem.W.keepIn K (.ref f7)=true)
  (a8:PySem.W.nsIn K mainGlobals "_law_kept"=some (some (.ref f8))) (l8:K.lookup f8=some ⟨oc8,od8,.func (PySem.W.fnOf "_law_kept" "_law_kept" (Zn V4) (Z5 V4) (Z3 V4) .none kV8 dc8 pm8 an8 cd8 ct8),sl8⟩) (c8:PySem.W.codeIn K cd8 "_law_kept"=true) (k8:PySem.W.keepIn K (.ref f8)=true)
  (a9:PySem.W.nsIn K mainGlobals "_law_sign"=some (some (.ref f9))) (l9:K.lookup f9=some ⟨oc9,od9,.func (PySem.W.fnOf "_law_sign" "_law_sign" (Zn V9) (Z5 V9) (Z3 V9) .none kV9 dc9 pm9 an9 cd9 ct9),sl9⟩) (c9:PySem.W.codeIn K cd9 "_law_sign"=true) (k9:PySem.W.keepIn K (.ref f9)=true)
  (a10:PySem.W.nsIn K mainGlobals "_law_word"=some (some (.ref f10))) (l10:K.lookup f10=some ⟨oc10,od10,.func (PySem.W.fnOf "_law_word" "_law_word" (Zn V1) (Z5 V1) (Z3 V1) .none kV10 dc10 pm10 an10 cd10 ct10),sl10⟩) (c10:PySem.W.codeIn K cd10 "_law_word"=true) (k10:PySem.W.keepIn K (.ref f10)=true)
  (a11:PySem.W.nsIn K mainGlobals "_law_names"=some (some (.ref f11))) (l11:K.lookup f11=some ⟨oc11,od11,.func (PySem.W.fnOf "_law_names" "_law_names" (Zn Xz) (Z5 Xz) (Z3 Xz) .none kV11 dc11 pm11 an11 cd11 ct11),sl11⟩) (c11:PySem.W.codeIn K cd11 "_law_names"=true) (k11:PySem.W.keepIn K (.ref f11)=true)
  (a12:PySem.W.nsIn K mainGlobals "_law_operand"=some (some (.ref f12))) (l12:K.lookup f12=some ⟨oc12,od12,.func (PySem.W.fnOf "_law_operand" "_law_operand" (Zn X2) (Z5 X2) (Z3 X2) .none kV12 dc12 pm12 an12 cd12 ct12),sl12⟩) (c12:PySem.W.codeIn K cd12 "_law_operand"=true) (k12:PySem.W.keepIn K (.ref f12)=true)
  (a13:PySem.W.nsIn K mainGlobals "_law_begins"=some (some (.ref f13))) (l13:K.lookup f13=some ⟨oc13,od13,.func (PySem.W.fnOf "_law_begins" "_law_begins" (Zn Xg) (Z5 Xg) (Z3 Xg) .none kV13 dc13 pm13 an13 cd13 ct13),sl13⟩) (c13:PySem.W.codeIn K cd13 "_law_begins"=true) (k13:PySem.W.keepIn K (.ref f13)=true)
  (a14:PySem.W.nsIn K mainGlobals "_law_deed"=some (some (.ref f14))) (l14:K.lookup f14=some ⟨oc14,od14,.func (PySem.W.fnOf "_law_deed" "_law_deed" (Zn Vb) (Z5 Vb) (Z3 Vb) .none kV14 dc14 pm14 an14 cd14 ct14),sl14⟩) (c14:PySem.W.codeIn K cd14 "_law_deed"=true) (k14:PySem.W.keepIn K (.ref f14)=true)
  (a15:PySem.W.nsIn K mainGlobals "_law_goes"=some (some (.ref f15))) (l15:K.lookup f15=some ⟨oc15,od15,.func (PySem.W.fnOf "_law_goes" "_law_goes" (Zn V8) (Z5 V8) (Z3 V8) .none kV15 dc15 pm15 an15 cd15 ct15),sl15⟩) (c15:PySem.W.codeIn K cd15 "_law_goes"=true) (k15:PySem.W.keepIn K (.ref f15)=true)
  (a16:PySem.W.nsIn K mainGlobals "_law_first"=some (some (.ref f16))) (l16:K.lookup f16=some ⟨oc16,od16,.func (PySem.W.fnOf "_law_first" "_law_first" (Zn W2) (Z5 W2) (Z3 W2) .none kV16 dc16 pm16 an16 cd16 ct16),sl16⟩) (c16:PySem.W.codeIn K cd16 "_law_first"=true) (k16:PySem.W.keepIn K (.ref f16)=true)
  (a17:PySem.W.nsIn K mainGlobals "_law_close"=some (some (.ref f17))) (l17:K.lookup f17=some ⟨oc17,od17,.func (PySem.W.fnOf "_law_close" "_law_close" (Zn W5) (Z5 W5) (Z3 W5) .none kV17 dc17 pm17 an17 cd17 ct17),sl17⟩) (c17:PySem.W.codeIn K cd17 "_law_close"=true) (k17:PySem.W.keepIn K (.ref f17)=true)
  (a18:PySem.W.nsIn K mainGlobals "_law_step"=some (some (.ref f18))) (l18:K.lookup f18=some ⟨oc18,od18,.func (PySem.W.fnOf "_law_step" "_law_step" (Zn V5) (Z5 V5) (Z3 V5) .none kV18 dc18 pm18 an18 cd18 ct18),sl18⟩) (c18:PySem.W.codeIn K cd18 "_law_step"=true) (k18:PySem.W.keepIn K (.ref f18)=true)
  (a19:PySem.W.nsIn K mainGlobals "_law_lines"=some (some (.ref f19))) (l19:K.lookup f19=some ⟨oc19,od19,.func (PySem.W.fnOf "_law_lines" "_law_lines" (Zn W1) (Z5 W1) (Z3 W1) .none kV19 dc19 pm19 an19 cd19 ct19),sl19⟩) (c19:PySem.W.codeIn K cd19 "_law_lines"=true) (k19:PySem.W.keepIn K (.ref f19)=true)
  (a20:PySem.W.nsIn K mainGlobals "_law_nested"=some (some (.ref f20))) (l20:K.lookup f20=some ⟨oc20,od20,.func (PySem.W.fnOf "_law_nested" "_law_nested" (Zn Xh) (Z5 Xh) (Z3 Xh) .none kV20 dc20 pm20 an20 cd20 ct20),sl20⟩) (c20:PySem.W.codeIn K cd20 "_law_nested"=true) (k20:PySem.W.keepIn K (.ref f20)=true)
  (a21:PySem.W.nsIn K mainGlobals "_law_sound"=some (some (.ref f21))) (l21:K.lookup f21=some ⟨oc21,od21,.func (PySem.W.fnOf "_law_sound" "_law_sound" (Zn W3) (Z5 W3) (Z3 W3) .none kV21 dc21 pm21 an21 cd21 ct21),sl21⟩) (c21:PySem.W.codeIn K cd21 "_law_sound"=true) (k21:PySem.W.keepIn K (.ref f21)=true)
  (a22:PySem.W.nsIn K mainGlobals "_law_has_number"=some (some (.ref f22))) (l22:K.lookup f22=some ⟨oc22,od22,.func (PySem.W.fnOf "_law_has_number" "_law_has_number" (Zn Y0) (Z5 Y0) (Z3 Y0) .none kV22 dc22 pm22 an22 cd22 ct22),sl22⟩) (c22:PySem.W.codeIn K cd22 "_law_has_number"=true) (k22:PySem.W.keepIn K (.ref f22)=true)
  (a23:PySem.W.nsIn K mainGlobals "_law_number_by"=some (some (.ref f23))) (l23:K.lookup f23=some ⟨oc23,od23,.func (PySem.W.fnOf "_law_number_by" "_law_number_by" (Zn Y9) (Z5 Y9) (Z3 Y9) .none kV23 dc23 pm23 an23 cd23 ct23),sl23⟩) (c23:PySem.W.codeIn K cd23 "_law_number_by"=true) (k23:PySem.W.keepIn K (.ref f23)=true)
  (a24:PySem.W.nsIn K mainGlobals "_law_changed"=some (some (.ref f24))) (l24:K.lookup f24=some ⟨oc24,od24,.func (PySem.W.fnOf "_law_changed" "_law_changed" (Zn Yz) (Z5 Yz) (Z3 Yz) .none kV24 dc24 pm24 an24 cd24 ct24),sl24⟩) (c24:PySem.W.codeIn K cd24 "_law_changed"=true) (k24:PySem.W.keepIn K (.ref f24)=true)
  (a25:PySem.W.nsIn K mainGlobals "_law_alike"=some (some (.ref f25))) (l25:K.lookup f25=some ⟨oc25,od25,.func (PySem.W.fnOf "_law_alike" "_law_alike" (Zn W4) (Z5 W4) (Z3 W4) .none kV25 dc25 pm25 an25 cd25 ct25),sl25⟩) (c25:PySem.W.codeIn K cd25 "_law_alike"=true) (k25:PySem.W.keepIn K (.ref f25)=true)
  (a26:PySem.W.nsIn K mainGlobals "_law_told_so"=some (some (.ref f26))) (l26:K.lookup f26=some ⟨oc26,od26,.func (PySem.W.fnOf "_law_told_so" "_law_told_so" (Zn X0) (Z5 X0) (Z3 X0) .none kV26 dc26 pm26 an26 cd26 ct26),sl26⟩) (c26:PySem.W.codeIn K cd26 "_law_told_so"=true) (k26:PySem.W.keepIn K (.ref f26)=true)
  (a27:PySem.W.nsIn K mainGlobals "law"=some (some (.ref f27))) (l27:K.lookup f27=some ⟨oc27,od27,.func (PySem.W.fnOf "law" "law" (Zn Nl) (Z5 Nl) (Z3 Nl) .none kV27 dc27 pm27 an27 cd27 ct27),sl27⟩) (c27:PySem.W.codeIn K cd27 "law"=true) (k27:PySem.W.keepIn K (.ref f27)=true)
  (z0:PySem.W.nsIn K mainGlobals "list"=some none) (z1:PySem.W.nsIn K mainGlobals "reversed"=some none) (z2:PySem.W.nsIn K mainGlobals "any"=some none) (z3:PySem.W.nsIn K mainGlobals "len"=some none) (z4:PySem.W.nsIn K mainGlobals "set"=some none) (z5:PySem.W.nsIn K mainGlobals "range"=some none) (z6:PySem.W.nsIn K mainGlobals "int"=some none) (z7:PySem.W.nsIn K mainGlobals "zip"=some none) (z8:PySem.W.nsIn K mainGlobals "isinstance"=some none) (z9:PySem.W.nsIn K mainGlobals "tuple"=some none) (z10:PySem.W.nsIn K mainGlobals "str"=some none) (z11:PySem.W.nsIn K mainGlobals "bool"=some none) (z12:PySem.W.nsIn K mainGlobals "max"=some none) (z13:PySem.W.nsIn K mainGlobals "min"=some none)
  {ta0:Addr} {tn0:Nat} {tt0_0:Tok} {to0:Option Addr} {tl0:Array (Option Value)} (u0:PySem.W.nsIn K mainGlobals "ELSE"=some (some (.ref ta0))) (v0:K.lookup ta0=some ⟨.type "tuple",to0,.seq #[.str "else" tt0_0] tn0,tl0⟩)
  {ta1:Addr} {tn1:Nat} {tt1_0:Tok} {to1:Option Addr} {tl1:Array (Option Value)} (u1:PySem.W.nsIn K mainGlobals "DONE"=some (some (.ref ta1))) (v1:K.lookup ta1=some ⟨.type "tuple",to1,.seq #[.str "done" tt1_0] tn1,tl1⟩)
  {ta2:Addr} {tn2:Nat} {tt2_0 tt2_1 tt2_2:Tok} {to2:Option Addr} {tl2:Array (Option Value)} (u2:PySem.W.nsIn K mainGlobals "OPENERS"=some (some (.ref ta2))) (v2:K.lookup ta2=some ⟨.type "tuple",to2,.seq #[.str "choice" tt2_0,.str "round" tt2_1,.str "part" tt2_2] tn2,tl2⟩)
  {tq0:Tok} (q0:PySem.W.nsIn K mainGlobals "MOST_NUMBER"=some (some (.int 9999 tq0)))
  :∃t:Adr,Tx K mg t∧t.a_law=f27∧∀(s:Shared) (v:Value),BindsTo s t.d_law ⟨[v],[]⟩ [("_law_script",v)]:=by
 have F0:=Y3 (st:=Xi) l0 c0 k0
 have F1:=Y3 (st:=Y1) l1 c1 k1
 have F2:=Y3 (st:=Yy) l2 c2 k2
 have F3:=Y3 (st:=Yl) l3 c3 k3
 have F4:=Y3 (st:=Y2) l4 c4 k4
 have F5:=Y3 (st:=Vj) l5 c5 k5
 have F6:=Y3 (st:=Sv) l6 c6 k6
 have F7:=Y3 (st:=R0) l7 c7 k7
 have F8:=Y3 (st:=V4) l8 c8 k8
 have F9:=Y3 (st:=V9) l9 c9 k9
 have F10:=Y3 (st:=V1) l10 c10 k10
 have F11:=Y3 (st:=Xz) l11 c11 k11
 have F12:=Y3 (st:=X2) l12 c12 k12
 have F13:=Y3 (st:=Xg) l13 c13 k13
 have F14:=Y3 (st:=Vb) l14 c14 k14
 have F15:=Y3 (st:=V8) l15 c15 k15
 have F16:=Y3 (st:=W2) l16 c16 k16
 have F17:=Y3 (st:=W5) l17 c17 k17
 have F18:=Y3 (st:=V5) l18 c18 k18
 have F19:=Y3 (st:=W1) l19 c19 k19
 have F20:=Y3 (st:=Xh) l20 c20 k20
 have F21:=Y3 (st:=W3) l21 c21 k21
 have F22:=Y3 (st:=Y0) l22 c22 k22
 have F23:=Y3 (st:=Y9) l23 c23 k23
 have F24:=Y3 (st:=Yz) l24 c24 k24
 have F25:=Y3 (st:=W4) l25 c25 k25
 have F26:=Y3 (st:=X0) l26 c26 k26
 have F27:=Y3 (st:=Nl) l27 c27 k27
 exact⟨⟨f0,_,f1,_,f2,_,f3,_,f4,_,f5,_,f6,_,f7,_,f8,_,f9,_,f10,_,f11,_,f12,_,f13,_,f14,_,f15,_,f16,_,f17,_,f18,_,f19,_,f20,_,f21,_,f22,_,f23,_,f24,_,f25,_,f26,_,f27,_⟩,⟨F0,PySem.W.mg_of X G a0,k0,.all (Wi (fun _=>rfl)),
  F1,PySem.W.mg_of X G a1,k1,.all (Wi (fun _=>rfl)),
  F2,PySem.W.mg_of X G a2,k2,.all (Wi (fun _=>rfl)),
  F3,PySem.W.mg_of X G a3,k3,.all (Vd (fun _ _=>rfl)),
  F4,PySem.W.mg_of X G a4,k4,.all (Wi (fun _=>rfl)),
  F5,PySem.W.mg_of X G a5,k5,.all (Wi (fun _=>rfl)),
  F6,PySem.W.mg_of X G a6,k6,.all (Vd (fun _ _=>rfl)),
  F7,PySem.W.mg_of X G a7,k7,.all (Vd (fun _ _=>rfl)),
  F8,PySem.W.mg_of X G a8,k8,.all (Zh2 rfl),
  F9,PySem.W.mg_of X G a9,k9,.all (Vd (fun _ _=>rfl)),
  F10,PySem.W.mg_of X G a10,k10,.all (Vd (fun _ _=>rfl)),
  F11,PySem.W.mg_of X G a11,k11,.all (Wi (fun _=>rfl)),
  F12,PySem.W.mg_of X G a12,k12,.all (Z46 (fun _ _ _ _=>rfl)),
  F13,PySem.W.mg_of X G a13,k13,.all (Wi (fun _=>rfl)),
  F14,PySem.W.mg_of X G a14,k14,.all (Z46 (fun _ _ _ _=>rfl)),
  F15,PySem.W.mg_of X G a15,k15,.all (Vd (fun _ _=>rfl)),
  F16,PySem.W.mg_of X G a16,k16,.all (Wi (fun _=>rfl)),
  F17,PySem.W.mg_of X G a17,k17,.all (Vd (fun _ _=>rfl)),
  F18,PySem.W.mg_of X G a18,k18,.all (Z46 (fun _ _ _ _=>rfl)),
  F19,PySem.W.mg_of X G a19,k19,.all (Vd (fun _ _=>rfl)),
  F20,PySem.W.mg_of X G a20,k20,.all (Wi (fun _=>rfl)),
  F21,PySem.W.mg_of X G a21,k21,.all (Wi (fun _=>rfl)),
  F22,PySem.W.mg_of X G a22,k22,.all (Wi (fun _=>rfl)),
  F23,PySem.W.mg_of X G a23,k23,.all (Z04 (fun _ _ _=>rfl)),
  F24,PySem.W.mg_of X G a24,k24,.all (Z04 (fun _ _ _=>rfl)),
  F25,PySem.W.mg_of X G a25,k25,.all (Vd (fun _ _=>rfl)),
  F26,PySem.W.mg_of X G a26,k26,.all (Vd (fun _ _=>rfl)),
  F27,PySem.W.mg_of X G a27,k27,.all (Wi (fun _=>rfl)),
  PySem.W.mg_none_of X G z0,
  PySem.W.mg_none_of X G z1,
  PySem.W.mg_none_of X G z2,
  PySem.W.mg_none_of X G z3,
  PySem.W.mg_none_of X G z4,
  PySem.W.mg_none_of X G z5,
  PySem.W.mg_none_of X G z6,
  PySem.W.mg_none_of X G z7,
  PySem.W.mg_none_of X G z8,
  PySem.W.mg_none_of X G z9,
  PySem.W.mg_none_of X G z10,
  PySem.W.mg_none_of X G z11,
  PySem.W.mg_none_of X G z12,
  PySem.W.mg_none_of X G z13,
  ⟨_,PySem.W.mg_of X G u0,_,_,_,v0,rfl,rfl,show 1≤sizeLine by decide,.cons ⟨_,rfl⟩ (.nil)⟩,
  ⟨_,PySem.W.mg_of X G u1,_,_,_,v1,rfl,rfl,show 1≤sizeLine by decide,.cons ⟨_,rfl⟩ (.nil)⟩,
  ⟨_,PySem.W.mg_of X G u2,_,_,_,v2,rfl,rfl,show 3≤sizeLine by decide,.cons ⟨_,rfl⟩ (.cons ⟨_,rfl⟩ (.cons ⟨_,rfl⟩ (.nil)))⟩,
  ⟨_,PySem.W.mg_of X G q0⟩⟩,rfl,fun s v=> .of_eq rfl⟩
set_option hygiene false
local macro_rules | `(tactic| walk_at "ev")=>do
 let ids:=("tss ts te tes teo tit tcd tbop tt op_add_i op_add_s op_add_t op_add_l op_sub_i op_mul_i op_mul_l op_fdiv_i op_mod_i op_pow_i cm_lt_i cm_gt_i cm_ge_i cm_eq cm_ne cm_in cm_notin cm_is_n cm_is_i cm_is_s cm_is_b cm_is_t cm_is_r eq_i eq_s eq_b eq_nn eq_is eq_si tru_b tru_i tru_n tru_t ix_t ix_g ix_s sl_s sl_t sl_l is_non is_bl is_int is_str is_tup tyNon tyBl tyInt tyStr tyTup tyLst tyDct bf_len_t bf_len_s bf_is bf_min bf_max bf_int on_ref set_f mt_popi_r mk_popi mt_insi_r mk_insi ati0 ati1 ati2 Option.some.injEq exists_eq_left' ofS_inj String.reduceEq mt_append_r mt_pop_r mt_extend_r mk_append mk_pop mk_extend tg_one tg_two it_r it_t it_g key_i key_s in_ss start0 List.map_cons List.map_nil List.length_cons List.length_nil List.cons_append List.nil_append List.append_nil List.replicate List.set_cons_zero List.set_cons_succ List.getElem?_cons_zero List.getElem?_cons_succ Nat.reduceAdd Nat.reduceSub Nat.sub_self Nat.zero_add decide_eq_true_eq ne_eq Int.reduceEq not_false_eq_true true_and Bool.not_eq_true' decide_eq_false_iff_not Bool.false_eq_true if_true if_false Bool.not_true Bool.not_false".splitOn " ").toArray.map fun s=>Lean.mkIdent s.toName
 `(tactic| first | (dsimp only[$[$ids:ident],*];try simp only[$[$ids:ident],*]) | simp only[$[$ids:ident],*])
structure Ks(F:Nat→Prop)(M M':Z2):Prop where
 at':∀a,¬F a→a<M.length→M'[a]?=M[a]?
 len:M.length≤M'.length
abbrev Kp:Z2→Z2→Prop:=Ks fun _=>False
theorem Ks.refl{F:Nat→Prop}(M:Z2):Ks F M M:=⟨fun _ _ _=>rfl,Nat.le_refl _⟩
theorem Ks.trans{F:Nat→Prop}{M M' M2:Z2}(h:Ks F M M')(g:Ks F M' M2):Ks F M M2:=⟨fun a n l=>(g.at' a n (Nat.lt_of_lt_of_le l h.len)).trans (h.at' a n l),Nat.le_trans h.len g.len⟩
theorem Ks.mono{F G:Nat→Prop}{M M':Z2}(h:Ks F M M')(k:∀a,a<M.length→F a→G a):Ks G M M':=⟨fun a n l=>h.at' a (fun z=>n (k a l z)) l,h.len⟩
theorem Ks.app{F:Nat→Prop}{M M':Z2}(h:Ks F M M')(N:Z2):Ks F M (M'++N):=⟨fun a n l=>by rw[List.getElem?_append_left (Nat.lt_of_lt_of_le l h.len)];exact h.at' a n l,Nat.le_trans h.len (by rw[List.length_append];omega)⟩
theorem Ks.new{F:Nat→Prop}(M N:Z2):Ks F M (M++N):=(Ks.refl M).app N
theorem Ks.set{F:Nat→Prop}{M M':Z2}(h:Ks F M M'){a:Nat}{c:Cell}(ha:F a∨M.length≤a):Ks F M (M'.set a c):=⟨fun b n l=>by
 have:a≠b:=by
  rintro rfl
  rcases ha with z | z
  ·exact n z
  ·omega
 rw[List.getElem?_set_ne this];exact h.at' b n l,by rw[List.length_set];exact h.len⟩
theorem Zc{M:Z2}{n:Nat}{xs:List D}(h:Zf M n=some xs):n<M.length:=by
 unfold Zf at h
 rcases Nat.lt_or_ge n M.length with l | l
 ·exact l
 ·rw[List.getElem?_eq_none l] at h
  cases h
theorem Ks.L{F:Nat→Prop}{M M':Z2}{a:Nat}{xs:List D}(h:Ks F M M')(n:¬F a)(e:Zf M a=some xs):Zf M' a=some xs:=by
 unfold Zf at e ⊢
 rw[h.at' a n (Zc (M:=M) (xs:=xs) e)];exact e
theorem Ks.W{F:Nat→Prop}{M M':Z2}{a:Nat}{xs:List D}(h:Ks F M M')(n:¬F a)(e:Z4 M a=some xs):Z4 M' a=some xs:=by
 have l:=Zc (Z0 e)
 unfold Z4 at e ⊢
 rw[h.at' a n l];exact e
theorem Ks.pL{M M':Z2}{a:Nat}{xs:List D}(h:Kp M M')(e:Zf M a=some xs):Zf M' a=some xs:=h.L (fun z=>z) e
theorem Ks.pW{M M':Z2}{a:Nat}{xs:List D}(h:Kp M M')(e:Z4 M a=some xs):Z4 M' a=some xs:=h.W (fun z=>z) e
theorem Z9{M:Z2}{n:Nat}{xs:List D}(h:n<M.length):Z4 (M.set n (.lst xs)) n=some xs:=by
 unfold Z4
 rw[List.getElem?_set_self h]
theorem qm{i j:Int}(h:0<j):qmod i j=i % j:=Ze2 h
theorem qd{i j:Int}(h:0<j):qdiv i j=i / j:=Zg9 h
theorem Zx3{xs:List D}{i:Int}{d:D}(h0:0≤i)(h:xs[i.toNat]?=some d):atI xs i=some d:=by
 have:=S6 h
 rwa[Int.toNat_of_nonneg h0] at this
theorem Y31{xs:List D}{i:Int}(h0:0≤i)(h:i<xs.length):∃d,atI xs i=some d∧d∈xs:=by
 have hl:i.toNat<xs.length:=by omega
 exact⟨xs[i.toNat],Zx3 h0 (List.getElem?_eq_getElem hl),List.getElem_mem hl⟩
theorem ix_m{M:Z2}{n:Nat}{xs:List D}{i m:Int}{F:D→Prop}(h:Zf M n=some xs)(hm:m=xs.length)(h0:0<xs.length)(q:∀d,d∈xs→F d):ixD M (.ref n) (.int (qmod i m)) F:=by
 subst hm
 rw[qm (by omega)]
 obtain⟨d,e1,e2⟩:=Y31 (xs:=xs) (Int.emod_nonneg i (b:=(xs.length:Int)) (by omega)) (Int.emod_lt_of_pos i (by omega))
 exact Qf h e1 (q d e2)
theorem Zv7{z:Str}{i m:Int}{F:D→Prop}(hm:m=z.length)(h0:0<z.length)(hz:z.length≤1000)(q:∀x:Str,x.length=1→F (.str x)):z.length≤sizeLine∧∃c,atI z.cps.toList (qmod i m)=some c∧F (.str ⟨#[c]⟩):=by
 subst hm
 rw[qm (by omega)]
 have h1:=Int.emod_nonneg i (b:=(z.length:Int)) (by omega)
 have h2:=Int.emod_lt_of_pos i (b:=(z.length:Int)) (by omega)
 have hl:(i % (z.length:Int)).toNat<z.cps.toList.length:=by rw[Array.length_toList];show _<z.length;omega
 refine⟨Z1 (by omega),z.cps.toList[(i % (z.length:Int)).toNat],?_,q _ rfl⟩
 have:=S6 (List.getElem?_eq_getElem hl)
 rwa[Int.toNat_of_nonneg h1] at this
theorem Xq(a b:Str):(a++b).length=a.length+b.length:=by
 show(a.cps++b.cps).size=_
 rw[Array.size_append];rfl
def Scr(M:Z2)(a:Nat):Prop:=∃ns:List Int,Zf M a=some (ns.map .int)∧ns.length≤63
theorem Scr.ks{F:Nat→Prop}{M M':Z2}{a:Nat}(h:Scr M a)(k:Ks F M M')(n:¬F a):Scr M' a:=by obtain⟨ns,e,l⟩:=h;exact⟨ns,k.L n e,l⟩
def Xd:DSp:=fun ds M Q _=>∃(a k:Nat),ds=[.ref a,.int k]∧Scr M a∧∀v,Q (.int v) M
def X5:DSp:=fun ds M Q _=>∃(a k:Nat),ds=[.ref a,.int k]∧Scr M a∧k≤1000∧∀v:Nat,v<2147483647→Q (.int v) M
noncomputable def kept:List Str:=["if","jump","end","rest","round","part","leave","again","else","done"]
def Yc:DSp:=fun ds M Q _=>ds=[]∧Q (.ref M.length) (M++[.lst (kept.map D.str)])
def Yj:DSp:=fun ds M Q _=>∃(n:Int) (b:Bool),ds=[.int n,.bl b]∧∀x:Str,x.length=1→Q (.str x) M
def Yr:DSp:=fun ds M Q _=>∃(n:Int) (s:Nat),ds=[.int n,.int s]∧s≤8∧∀x:Str,x.length=s→Q (.str x) M
def Y6:DSp:=fun ds M Q _=>∃a:Nat,ds=[.ref a]∧Scr M a∧∀(l:List Str) M' r,l.length=5→Kp M M'→Zf M' r=some (l.map D.str)→Q (.ref r) M'
inductive Opd where
 | nm (x:Str) | no (i:Int)
noncomputable def Opd.d:Opd→D
 | .nm x=> .str x
 | .no i=> .int i
def Nms(M:Z2)(r:Nat):Prop:=∃l:List Str,l.length=5∧Zf M r=some (l.map D.str)
theorem Nms.ks{F:Nat→Prop}{M M':Z2}{a:Nat}(h:Nms M a)(k:Ks F M M')(n:¬F a):Nms M' a:=by obtain⟨ns,l,e⟩:=h;exact⟨ns,l,k.L n e⟩
def Zo:DSp:=fun ds M Q _=>∃(a k r n:Nat),ds=[.ref a,.int k,.ref r,.int n]∧Scr M a∧Nms M r∧∀o:Opd,Q o.d M
section
variable{K:PySem.W.Frag}
theorem Zu9{Γ G}:∀ds M Q Z,Xd ds M Q Z→tss ⟨K,Γ,G⟩ noX b_Lraw {nx:=fun _ M=>Q .non M,rt:=Q} (start0 Gy ds) M:=by
 rintro ds M Q Z ⟨a,k,rfl,⟨ns,hm,hl⟩,q⟩
 delta b_Lraw Gy
 walk_at "ev"
 refine Y4 hm ?_
 walk_at "ev"
 split
 ·exact q _
 ·rename_i h
  delta E1
  walk_at "ev"
  refine Y4 hm ⟨by omega,ix_m hm rfl (by omega) fun d hd=>?_⟩
  obtain⟨v,_,rfl⟩:=List.mem_map.mp hd
  exact q v
theorem mixR{M:Z2}{Q:DK}{v:Int}(q:∀v:Nat,v<2147483647→Q (.int v) M):Q (.int (qmod v 2147483647)) M:=by
 rw[qm (by decide)]
 have h1:=Int.emod_nonneg v (show(2147483647:Int)≠0 by decide)
 have h2:=Int.emod_lt_of_pos v (show(0:Int)<2147483647 by decide)
 have:=q (v % 2147483647).toNat (by omega)
 rwa[Int.toNat_of_nonneg h1] at this
theorem Y09{Γ G}(g:Γ[6]?=some Xd):∀ds M Q Z,X5 ds M Q Z→tss ⟨K,Γ,G⟩ noX b_Lmix {nx:=fun _ M=>Q .non M,rt:=Q} (start0 Gx ds) M:=by
 rintro ds M Q Z ⟨a,k,rfl,hs,hk,q⟩
 obtain⟨ns,hm,hl⟩:=id hs
 delta b_Lmix Gx
 walk_at "ev"
 refine Y4 hm ?_
 walk_at "ev"
 split
 ·exact⟨mulR (by omega) (by omega),mulR (by decide) (by decide),mixR q⟩
 ·rename_i h
  delta E8
  walk_at "ev"
  have hp:(0:Int)< (ns.map D.int).length:=by omega
  refine Y4 hm ⟨Zi hp (by rw[List.length_map];omega),?_⟩
  rw[qd hp]
  have d1:0≤(k:Int) / (ns.map D.int).length:=Int.ediv_nonneg (by omega) (by omega)
  have d2:(k:Int) / (ns.map D.int).length≤k:=Int.ediv_le_self _ (by omega)
  simp only[g]
  refine⟨a,k,rfl,hs,fun v=>?_⟩
  walk_at "ev"
  refine⟨mulL (by decide) (by decide),mulR (by omega) (by omega),mulR ?_ ?_,mixR q⟩
  ·have:0≤7 * ((k:Int) / (ns.map D.int).length) * ((k:Int) / (ns.map D.int).length):=Int.mul_nonneg (by omega) d1
   omega
  ·have:7 * ((k:Int) / (ns.map D.int).length) * ((k:Int) / (ns.map D.int).length)≤7000 * 1000:=Int.mul_le_mul (by omega) (by omega) d1 (by decide)
   omega
theorem Zl0{Γ G}:∀ds M Q Z,Yc ds M Q Z→tss ⟨K,Γ,G⟩ noX b_Lkept {nx:=fun _ M=>Q .non M,rt:=Q} (start0 O6 ds) M:=by
 rintro ds M Q Z ⟨rfl,q⟩
 delta b_Lkept O6
 walk_at "ev"
 exact⟨Z1 (by decide),q⟩
theorem Zp2{Γ G}:∀ds M Q Z,Yj ds M Q Z→tss ⟨K,Γ,G⟩ noX b_Lsign {nx:=fun _ M=>Q .non M,rt:=Q} (start0 Oa ds) M:=by
 rintro ds M Q Z ⟨n,b,rfl,q⟩
 delta b_Lsign Oa
 walk_at "ev"
 split
 ·refine Zv7 (F:=fun d=>Q d M) (z:="abcdefghijklmnopqrstuvwxyz") ?_ ?_ ?_ q<;>decide+kernel
 ·delta Na
  walk_at "ev"
  refine Zv7 (F:=fun d=>Q d M) (z:="abcdefghijklmnopqrstuvwxyz0123456789") ?_ ?_ ?_ q<;>decide+kernel
theorem Zl2{Γ G}(g:Γ[9]?=some Yj):∀ds M Q Z,Yr ds M Q Z→tss ⟨K,Γ,G⟩ noX b_Lword {nx:=fun _ M=>Q .non M,rt:=Q} (start0 O5 ds) M:=by
 rintro ds M Q Z ⟨n,s,rfl,hs,q⟩
 delta b_Lword O5
 walk_at "ev"
 refine⟨by omega,by omega,?_⟩
 rw[Int.toNat_natCast]
 refine Om (fun i σ M'=>∃(n:Int) (x:Str) (d:Option D),σ=[some (.int n),some (.int s),some (.str x),d]∧M'=M∧x.length=i) ⟨n,_,none,rfl,rfl,rfl⟩ ?_ ?_
 ·rintro i σ M' C hi ⟨n,x,d,rfl,rfl,hx⟩ hC
  delta Jh
  walk_at "ev"
  refine⟨mulR (by decide) (by decide),Zi (by decide) (by decide),?_⟩
  simp only[g]
  refine⟨_,_,rfl,fun y hy=>?_⟩
  walk_at "ev"
  exact⟨Z1 (by omega),hC _ _ ⟨_,_,_,rfl,rfl,by rw[Xq,hx,hy]⟩⟩
 ·rintro σ M' ⟨n,x,d,rfl,rfl,hx⟩
  delta Jd
  walk_at "ev"
  exact q x hx
end
section
variable{K:PySem.W.Frag}
theorem Z51(x:Str){i:Int}(h:0≤i):(Txt.slice x (some i) none).length≤x.length:=by
 rcases Int.lt_or_le i x.length with l | l
 ·have:=(fact_slice_sn x i).1 h (by omega)
  omega
 ·have:=(fact_slice_sn x i).2 l
  omega
theorem Y37(x:Str){i:Int}(h:0≤i):(Txt.slice x none (some i)).length≤x.length:=by
 rcases Int.lt_or_le i x.length with l | l
 ·have:=(fact_slice_ns x i).1 h (by omega)
  omega
 ·have:=(fact_slice_ns x i).2 l
  omega
theorem Z59(l:List Str):(l.map D.str).all Y8=true:=by
 rw[List.all_eq_true]
 intro d h
 obtain⟨x,_,rfl⟩:=List.mem_map.mp h
 rfl
def NmI(a:Nat)(M:Z2)(f:Nat)(stem:Str)(t:Nat)(i:Nat)(w:Option D)(σ:DEnv)(M':Z2):Prop:=∃(l:List Str) (d5 d6:Option D),σ=[some (.ref a),some (.int f),some (.str stem),some (.int t),some (.ref M.length),d5,d6,w]∧Kp M M'∧Z4 M' M.length=some (l.map D.str)∧l.length=i
theorem nm_2{Γ G}{P:DEnds}{a f t i:Nat}{M M':Z2}{stem x:Str}{l:List Str}{d5 d6:Option D}(k:Kp M M')(e:Z4 M' M.length=some (l.map D.str))(hl:l.length=i)(hi:i<5)
  (h:∀σ M2,(∃w,NmI a M f stem t (i+1) w σ M2)→P.nx σ M2):tss ⟨K,Γ,G⟩ noX Tw P [some (.ref a),some (.int f),some (.str stem),some (.int t),some (.ref M.length),d5,d6,some (.str x)] M':=by
 delta Tw
 walk_at "ev"
 refine⟨Za (Z0 e),_,e,Zd (by rw[List.length_map];omega),h _ _ ⟨_,l++[x],_,_,rfl,k.set (.inr (Nat.le_refl _)),?_,by rw[List.length_append,hl];rfl⟩⟩
 rw[Z9 (Zc (Z0 e)),List.map_append]
 rfl
theorem nm_3{Γ G}(g:Γ[8]?=some Yc){P:DEnds}{a f t i:Nat}{M M':Z2}{stem x:Str}{l:List Str}{d5 d6:Option D}(hx:x.length≤1000)(k:Kp M M')(e:Z4 M' M.length=some (l.map D.str))(hl:l.length=i)(hi:i<5)
  (h:∀σ M2,(∃w,NmI a M f stem t (i+1) w σ M2)→P.nx σ M2):tss ⟨K,Γ,G⟩ noX Sh P [some (.ref a),some (.int f),some (.str stem),some (.int t),some (.ref M.length),d5,d6,some (.str x)] M':=by
 delta Sh
 walk_at "ev"
 simp only[g]
 refine⟨rfl,.inl ⟨_,Zj _ _ [],rfl,Z59 _,?_⟩⟩
 walk_at "ev"
 have k2:Kp M (M'++[.lst (kept.map D.str)]):=k.app _
 have e2:=Z8 (N:=[.lst (kept.map D.str)]) e
 split
 ·refine⟨Z1 (by omega),?_⟩
  have:=Z51 x (show(0:Int)≤1 by decide)
  have l1:("q":Str).length=1:=by decide+kernel
  exact⟨Z1 (by omega),nm_2 k2 e2 hl hi h⟩
 ·exact nm_2 k2 e2 hl hi h
theorem nm_4{Γ G}(g:Γ[8]?=some Yc)(gs:Γ[9]?=some Yj){P:DEnds}{a f t i v:Nat}{M M':Z2}{stem x:Str}{l:List Str}(hx:x.length≤1000)(k:Kp M M')(e:Z4 M' M.length=some (l.map D.str))(hl:l.length=i)(hi:i<5)
  (h:∀σ M2,(∃w,NmI a M f stem t (i+1) w σ M2)→P.nx σ M2):tss ⟨K,Γ,G⟩ noX Tz P [some (.ref a),some (.int f),some (.str stem),some (.int t),some (.ref M.length),some (.int i),some (.int v),some (.str x)] M':=by
 delta Tz
 walk_at "ev"
 have fin:=nm_3 (G:=G) (P:=P) (a:=a) (f:=f) (t:=t) (stem:=stem) (d5:=some (.int i)) (d6:=some (.int v)) (K:=K) g (x:=x) hx k e hl hi h
 have hy9:∀y∈kept,y.length≤9:=by decide+kernel
 split
 ·split
  ·simp only[g]
   refine⟨rfl,Zi (by decide) (by decide),ix_m (Zj _ _ []) rfl (by decide) fun d hd=>?_⟩
   obtain⟨y,hy,rfl⟩:=List.mem_map.mp hd
   refine⟨Zi (by decide) (by decide),?_⟩
   simp only[gs]
   refine⟨_,_,rfl,fun z hz=>?_⟩
   have:=hy9 y hy
   walk_at "ev"
   exact⟨Z1 (by omega),nm_3 g (by rw[Xq];omega) (k.app _) (Z8 e) hl hi h⟩
  ·exact fin
 ·exact fin
theorem Ze3{Γ G}(gm:Γ[7]?=some X5)(gk:Γ[8]?=some Yc)(gs:Γ[9]?=some Yj)(gw:Γ[10]?=some Yr):∀ds M Q Z,Y6 ds M Q Z→tss ⟨K,Γ,G⟩ noX b_Lnames {nx:=fun _ M=>Q .non M,rt:=Q} (start0 Rh ds) M:=by
 rintro ds M Q Z ⟨a,rfl,hs,q⟩
 have m8:∀v:Nat,∃s:Nat,s<8∧qmod (qdiv (v:Int) 8) 8=s:=by
  intro v
  rw[qm (by decide),qd (by decide)]
  have h1:=Int.emod_nonneg ((v:Int) / 8) (show(8:Int)≠0 by decide)
  have h2:=Int.emod_lt_of_pos ((v:Int) / 8) (show(0:Int)<8 by decide)
  exact⟨((v:Int) / 8 % 8).toNat,by omega,by omega⟩
 delta b_Lnames Rh
 walk_at "ev"
 simp only[gm]
 refine⟨a,901,rfl,hs,by decide,fun f hf=>?_⟩
 walk_at "ev"
 refine⟨Zi (by decide) (by decide),?_⟩
 simp only[gw]
 obtain⟨s8,hs8,e8⟩:=m8 f
 rw[e8]
 refine⟨_,s8+1,by rw[show(1:Int)+s8=((s8+1:Nat):Int) by omega],by omega,fun stem hst=>?_⟩
 walk_at "ev"
 refine⟨Zi (by decide) (by decide),Z1 (by omega),by omega,Z1 (by decide),by decide,by decide,?_⟩
 rw[qm (show(0:Int)<stem.length by omega)]
 have t1:=Int.emod_nonneg (qdiv (f:Int) 64) (show(stem.length:Int)≠0 by omega)
 have t2:=Int.emod_lt_of_pos (qdiv (f:Int) 64) (show(0:Int)<stem.length by omega)
 obtain⟨t,ht,et⟩:∃t:Nat,t<stem.length∧qdiv (f:Int) 64 % stem.length=t:=⟨(qdiv (f:Int) 64 % stem.length).toNat,by omega,by omega⟩
 rw[et]
 refine Om (fun i σ M'=>∃w,NmI a M f stem t i w σ M') ⟨none,[],none,none,rfl,Ks.new _ _,Z6 _ _ [],rfl⟩ ?_ ?_
 ·rintro i σ M' C hi ⟨w,l,d5,d6,rfl,k,e,hl⟩ hC
  have i5:i<5:=hi
  (delta Pm;simp only[Int.zero_add])
  walk_at "ev"
  simp only[gm]
  refine⟨a,902+i,by rw[show(902:Int)+i=((902+i:Nat):Int) by omega],hs.ks k (fun z=>z),by omega,fun v hv=>?_⟩
  walk_at "ev"
  refine⟨Z1 (by omega),Zi (by decide) (by decide),mulL (by decide) (by decide),?_⟩
  simp only[gs]
  refine⟨_,_,rfl,fun z hz=>?_⟩
  walk_at "ev"
  have l1:=Y37 stem (show(0:Int)≤t by omega)
  have l2:=Z51 stem (show(0:Int)≤t+1 by omega)
  refine⟨Z1 (by omega),Z1 (by omega),Z1 (by rw[Xq];omega),?_⟩
  split
  ·refine⟨Zi (by decide) (by decide),?_⟩
   simp only[gw]
   obtain⟨v8,hv8,ev8⟩:=m8 v
   rw[ev8]
   exact⟨_,v8+1,by rw[show(1:Int)+v8=((v8+1:Nat):Int) by omega],by omega,fun x hx=>nm_4 gk gs (by omega) k e hl i5 hC⟩
  ·exact nm_4 gk gs (by rw[Xq,Xq];omega) k e hl i5 hC
 ·rintro σ M' ⟨w,l,d5,d6,rfl,k,e,hl⟩
  delta Pg
  walk_at "ev"
  exact q l _ _ hl k (Z0 e)
theorem Eb{Γ G}(g:Γ[6]?=some Xd):∀ds M Q Z,Zo ds M Q Z→tss ⟨K,Γ,G⟩ noX b_Loperand {nx:=fun _ M=>Q .non M,rt:=Q} (start0 Vq ds) M:=by
 rintro ds M Q Z ⟨a,k,r,n,rfl,hs,⟨l,hl,hr⟩,q⟩
 have qi:∀i:Int,Q (.int i) M:=fun i=>q (.no i)
 delta b_Loperand Vq
 walk_at "ev"
 split
 ·refine⟨Zi (by decide) (by decide),ix_m hr (by rw[List.length_map,hl];rfl) (by rw[List.length_map];omega) fun d hd=>?_⟩
  obtain⟨x,_,rfl⟩:=List.mem_map.mp hd
  exact q (.nm x)
 ·delta Sz
  walk_at "ev"
  split
  ·exact⟨Zi (by decide) (by decide),qi _⟩
  ·delta R7
   walk_at "ev"
   simp only[g]
   have p18:CPow 10 18:=⟨by decide,by decide,by decide⟩
   have e18:(10:Int) ^ (18:Int).toNat=1000000000000000000:=by decide
   have r1:=Int.emod_nonneg (qdiv (n:Int) 24) (show(1000:Int)≠0 by decide)
   have r2:=Int.emod_lt_of_pos (qdiv (n:Int) 24) (show(0:Int)<1000 by decide)
   refine⟨a,k,rfl,hs,fun v=>?_⟩
   walk_at "ev"
   refine⟨p18,by decide,Zi (by decide) (by decide),mulR (by rw[qm (by decide)];omega) (by rw[qm (by decide)];omega),p18,by decide,Zi (by decide) (by decide),?_⟩
   have fin:∀b:Int,tss ⟨K,Γ,G⟩ noX V7 {nx:=fun _ M=>Q .non M,rt:=Q} [some (.ref a),some (.int k),some (.ref r),some (.int n),some (.int b)] M:=by
    intro b
    delta V7
    walk_at "ev"
    refine⟨Zi (by decide) (by decide),?_⟩
    split
    ·exact qi _
    ·delta So
     walk_at "ev"
     exact qi _
   split
   ·exact⟨p18,Zi (by decide) (by decide),fin _⟩
   ·exact fin _
end
inductive Ln where
 | cond (a:Opd) (s:Str) (b:Opd) | sum (x:Str) (a:Opd) (s:Str) (b:Opd) | rnd (n:Int) | prt (n:Int) | lve (n:Int) | agn (n:Int) | els | don | fin
noncomputable def Ln.d:Ln→D
 | .cond a s b=> .tup [.str "if",a.d,.str s,b.d]
 | .sum x a s b=> .tup [.str "sum",.str x,a.d,.str s,b.d]
 | .rnd n=> .tup [.str "round",.int n]
 | .prt n=> .tup [.str "part",.int n]
 | .lve n=> .tup [.str "leave",.int n]
 | .agn n=> .tup [.str "again",.int n]
 | .els=> .tup [.str "else"]
 | .don=> .tup [.str "done"]
 | .fin=> .tup [.str "end"]
noncomputable def Ln.beg:Ln→Bool
 | .cond _ _ _ | .rnd _ | .prt _=>true
 | _=>false
noncomputable def Ln.pl:Ln→Bool
 | .els | .don=>false
 | _=>true
inductive Tp where
 | cif | cel | crd | cpt
noncomputable def Tp.s:Tp→Str
 | .cif=>"if" | .cel=>"else" | .crd=>"round" | .cpt=>"part"
noncomputable def seD(x:Tp×Int):D:= .tup [.str x.1.s,.int x.2]
noncomputable def stp:List Tp→Ln→Option (List Tp)
 | st,.cond _ _ _=>some (.cif::st)
 | st,.rnd _=>some (.crd::st)
 | st,.prt _=>some (.cpt::st)
 | .cif::st,.els=>some (.cel::st)
 | _,.els=>none
 | _::st,.don=>some st
 | [],.don=>none
 | st,_=>some st
noncomputable def run:List Tp→List Ln→Option (List Tp)
 | st,[]=>some st
 | st,l::ls=>(stp st l).bind fun t=>run t ls
theorem O8(ls ms:List Ln)(st:List Tp):run st (ls++ms)=(run st ls).bind fun t=>run t ms:=by
 induction ls generalizing st with
 | nil=>rfl
 | cons l ls ih=>
  show(stp st l).bind _=((stp st l).bind _).bind _
  cases stp st l with
  | none=>rfl
  | some t=>exact ih t
noncomputable def tps(ss:List (Tp×Int)):List Tp:=(ss.map (·.1)).reverse
theorem Td(ss:List (Tp×Int))(x:Tp×Int):tps (ss++[x])=x.1::tps ss:=by unfold tps;simp
def Zl:DSp:=fun ds M Q _=>∃l:Ln,ds=[l.d]∧Q (.bl l.beg) M
def Yq:DSp:=fun ds M Q _=>∃(a k r v:Nat),ds=[.ref a,.int k,.ref r,.int v]∧Scr M a∧Nms M r∧∀(l:Ln) M',l.pl=true→Kp M M'→Q l.d M'
def Yv:DSp:=fun ds M Q _=>∃(r v:Nat) (ss:List (Tp×Int)),ds=[.ref r,.int v]∧Zf M r=some (ss.map seD)∧ss.length≤1000∧∀M',Kp M M'→Q .non M'∧∀l:Ln,l.pl=true→Q l.d M'
def Yn:DSp:=fun ds M Q _=>∃a:Nat,ds=[.ref a]∧Scr M a∧∀(n:Int) M',Kp M M'→Q (.int n) M'
def Ym:DSp:=fun ds M Q _=>∃(r v:Nat) (ss:List (Tp×Int)) (x:Tp×Int),ds=[.ref r,.int v]∧Z4 M r=some ((ss++[x]).map seD)∧ss.length≤1000∧
 ∀(l:Ln) (ss':List (Tp×Int)) M',stp (tps (ss++[x])) l=some (tps ss')→ss'.length≤ss.length+1→Ks (·=r) M M'→Z4 M' r=some (ss'.map seD)→Q l.d M'
def Wc:DSp:=fun ds M Q _=>∃(a k nm r:Nat) (ss:List (Tp×Int)),ds=[.ref a,.int k,.ref nm,.ref r]∧Scr M a∧Nms M nm∧a≠r∧nm≠r∧k≤100∧Z4 M r=some (ss.map seD)∧ss.length≤500∧
 ∀(l:Ln) (ss':List (Tp×Int)) M',stp (tps ss) l=some (tps ss')→ss'.length≤ss.length+1→Ks (·=r) M M'→Z4 M' r=some (ss'.map seD)→Q l.d M'
theorem Tl{M:Z2}{m n:Nat}{xs:List D}{B:Bool→Prop}(h1:Zf M m=some xs)(h2:Zf M n=some [])(q:B xs.isEmpty):eqD M (.ref m) (.ref n) B:= .inr (.inr (.inl ⟨m,n,xs,rfl,rfl,h1,h2,q⟩))
section
variable{K:PySem.W.Frag}
theorem Z63{Γ G}:∀ds M Q Z,Zl ds M Q Z→tss ⟨K,Γ,G⟩ noX b_Lbegins {nx:=fun _ M=>Q .non M,rt:=Q} (start0 Tj ds) M:=by
 rintro ds M Q Z ⟨l,rfl,q⟩
 delta b_Lbegins Tj
 cases l<;>simp only[Ln.d]<;>walk_at "ev" <;>exact q
theorem Zr8{Γ G}(g:Γ[12]?=some Zo):∀ds M Q Z,Yq ds M Q Z→tss ⟨K,Γ,G⟩ noX b_Ldeed {nx:=fun _ M=>Q .non M,rt:=Q} (start0 Og ds) M:=by
 rintro ds M Q Z ⟨a,k,r,v,rfl,hs,hn,q⟩
 obtain⟨nl,hl,hr⟩:=id hn
 delta b_Ldeed Og
 walk_at "ev"
 have nz:∀c m:Int,0<m→∃n:Nat,qdiv (qmod c m) 8=n:=by
  intro c m hm
  rw[qm hm,qd (by decide)]
  exact⟨(c % m / 8).toNat,by have:=Int.ediv_nonneg (Int.emod_nonneg c (show m≠0 by omega)) (show(0:Int)≤8 by decide);omega⟩
 obtain⟨n1,e1⟩:=nz (v * 16807) 2147483563 (by decide)
 obtain⟨n2,e2⟩:=nz (v * 39373) 2147483543 (by decide)
 simp only[g]
 refine⟨mulR (by decide) (by decide),Zi (by decide) (by decide),a,k,r,n1,by rw[e1],hs,hn,fun o1=>?_⟩
 refine⟨mulR (by decide) (by decide),Zi (by decide) (by decide),a,k+1,r,n2,by rw[e2];rfl,hs,hn,fun o2=>?_⟩
 split
 ·refine⟨Z1 (by decide),Zi (by decide) (by decide),ix_m (Zj _ _ []) rfl (by decide) fun d hd=>?_⟩
  have:∃s:Str,d= .str s:=by
   simp only[List.mem_cons,List.not_mem_nil,or_false] at hd
   rcases hd with rfl | rfl<;>exact⟨_,rfl⟩
  obtain⟨s,rfl⟩:=this
  exact⟨Z1 (by decide),q (.cond o1 s o2) _ rfl (Ks.new _ _)⟩
 ·delta Jj
  walk_at "ev"
  refine⟨Z1 (by decide),Zi (by decide) (by decide),ix_m (Zj _ _ []) rfl (by decide) fun d hd=>?_⟩
  have:∃s:Str,d= .str s:=by
   simp only[List.mem_cons,List.not_mem_nil,or_false] at hd
   rcases hd with rfl | rfl | rfl | rfl | rfl | rfl<;>exact⟨_,rfl⟩
  obtain⟨s,rfl⟩:=this
  refine⟨Zi (by decide) (by decide),ix_m (Z7 hr) (by rw[List.length_map,hl];rfl) (by rw[List.length_map];omega) fun d hd=>?_⟩
  obtain⟨x,_,rfl⟩:=List.mem_map.mp hd
  exact⟨Z1 (by decide),q (.sum x o1 s o2) _ rfl (Ks.new _ _)⟩
end
section
variable{K:PySem.W.Frag}
theorem Zf2{Γ G}(g:Γ[7]?=some X5):∀ds M Q Z,Yn ds M Q Z→tss ⟨K,Γ,G⟩ noX b_Lfirst {nx:=fun _ M=>Q .non M,rt:=Q} (start0 Rf ds) M:=by
 rintro ds M Q Z ⟨a,rfl,hs,q⟩
 delta b_Lfirst Rf
 walk_at "ev"
 simp only[g]
 refine⟨a,911,rfl,hs,by decide,fun v hv=>?_⟩
 walk_at "ev"
 refine⟨Zi (by decide) (by decide),Z1 (by decide),ix_m (Zj _ _ []) rfl (Nat.succ_pos _) fun d hd=>?_⟩
 simp only[List.mem_cons,List.not_mem_nil,or_false] at hd
 rcases hd with rfl | rfl | rfl<;>exact q _ _ (Ks.new _ _)
theorem Zt1{ss:List (Tp×Int)}{i:Nat}{d:D}(h:(ss.map seD)[i]?=some d):∃x:Tp×Int,d=seD x:=by
 rw[List.getElem?_map] at h
 cases e:ss[i]? with
 | none=>rw[e] at h;cases h
 | some x=>rw[e] at h;cases h;exact⟨x,rfl⟩
theorem Zo7{Γ G}:∀ds M Q Z,Yv ds M Q Z→tss ⟨K,Γ,G⟩ noX b_Lgoes {nx:=fun _ M=>Q .non M,rt:=Q} (start0 Ov ds) M:=by
 rintro ds M Q Z ⟨r,v,ss,rfl,hr,hl,q⟩
 have comp:∀(M0:Z2) (cd:DT) (F:Z2→Prop),Zf M0 r=some (ss.map seD)→(∀M1 (x:Tp×Int) (B:Bool→Z2→Prop),(∀b,B b M1)→cd [some (seD x)] M1 B)→
   (∀(ns:List Int) M',Kp M0 M'→Z4 M' M0.length=some (ns.map .int)→ns.length≤1000→F M')→N0 (.lst r) (ss.map seD) [0] cd (te ⟨K,Γ,G⟩ noX (.ix (.var 0) (.int 1))) M0.length (ss.map seD) [none] (M0++[.lst []]) F:=by
  intro M0 cd F h0 hcd fin
  refine Tn (fun i σ M'=>∃(d:Option D) (ns:List Int),σ=[d]∧Kp M0 M'∧Z4 M' M0.length=some (ns.map .int)∧ns.length≤i) ⟨none,[],rfl,Ks.new _ _,Z6 _ _ [],Nat.le_refl _⟩ ?_ ?_ ?_
  ·rintro i σ M' _ ⟨d,ns,rfl,k,e,l⟩
   exact k.pL h0
  ·rintro i d σ M' C hd ⟨d0,ns,rfl,k,e,l⟩ hC
   obtain⟨x,rfl⟩:=Zt1 hd
   rw[tg_one]
   refine hcd _ _ _ fun b=>?_
   cases b with
   | false=>exact hC _ _ ⟨_,ns,rfl,k,e,by omega⟩
   | true=>
    have hi:=(List.getElem?_eq_some_iff.mp hd).1
    rw[List.length_map] at hi
    rw[if_pos rfl]
    simp only[seD]
    walk_at "ev"
    refine⟨_,e,Zd (by rw[List.length_map];omega),hC _ _ ⟨_,ns++[x.2],rfl,k.set (.inr (Nat.le_refl _)),?_,by rw[List.length_append,List.length_singleton];omega⟩⟩
    rw[Z9 (Zc (Z0 e)),List.map_append]
    rfl
  ·rintro σ M' ⟨d,ns,rfl,k,e,l⟩
   rw[List.length_map] at l
   exact fin ns M' k e (by omega)
 delta b_Lgoes Ov
 walk_at "ev"
 refine⟨_,hr,comp M _ _ hr ?_ fun ns M1 k1 e1 l1=>?_⟩
 ·intro M1 x B hB
  simp only[seD]
  walk_at "ev"
  exact hB _
 try walk_at "ev"
 have hr1:=k1.pL hr
 refine⟨_,hr1,comp M1 _ _ hr1 ?_ fun ms M2 k2 e2 l2=>?_⟩
 ·intro M1 x B hB
  simp only[seD]
  walk_at "ev"
  exact hB _
 have k12:Kp M M2:=k1.trans k2
 have e1':=k2.pW e1
 have fin:∀M3,Kp M M3→Z4 M3 M.length=some (ns.map .int)→tss ⟨K,Γ,G⟩ noX Ry {nx:=fun _ M=>Q .non M,rt:=Q} [some (.ref r),some (.int v),some (.ref M.length),some (.ref M1.length)] M3:=by
  intro M3 k3 e3
  delta Ry
  walk_at "ev"
  refine⟨Z1 (by decide),Tl (Z7 (Z0 e3)) (Zj _ _ []) ?_⟩
  try walk_at "ev"
  have k4:Kp M (M3++[.lst []]):=k3.app _
  cases ns with
  | nil=>exact(q _ k4).1
  | cons n ns=>
   simp only[N8,List.map_cons,List.isEmpty_cons]
   walk_at "ev"
   refine⟨Zi (by decide) (by decide),Y4 (Z7 (Z0 e3)) ?_⟩
   walk_at "ev"
   refine⟨by simp only[List.length_map,List.length_cons];omega,ix_m (Z7 (Z0 e3)) (by simp) (Nat.succ_pos _) fun d hd=>?_⟩
   obtain⟨i,_,rfl⟩:=List.mem_map.mp hd
   exact⟨Z1 (by decide),(q _ k4).2 (.lve i) rfl⟩
 try walk_at "ev"
 split
 ·refine⟨Z1 (by decide),Tl (Z7 (Z0 e2)) (Zj _ _ []) ?_⟩
  have k4:Kp M (M2++[.lst []]):=k12.app _
  cases ms with
  | nil=>exact fin _ k4 (Z8 e1')
  | cons n ms=>
   simp only[List.map_cons,List.isEmpty_cons]
   try walk_at "ev"
   refine⟨Zi (by decide) (by decide),Y4 (Z7 (Z0 e2)) ?_⟩
   walk_at "ev"
   refine⟨by simp only[List.length_map,List.length_cons];omega,ix_m (Z7 (Z0 e2)) (by simp) (Nat.succ_pos _) fun d hd=>?_⟩
   obtain⟨i,_,rfl⟩:=List.mem_map.mp hd
   exact⟨Z1 (by decide),(q _ k4).2 (.agn i) rfl⟩
 ·exact fin _ k12 e1'
theorem Za0{Γ G}:∀ds M Q Z,Ym ds M Q Z→tss ⟨K,Γ,G⟩ noX b_Lclose {nx:=fun _ M=>Q .non M,rt:=Q} (start0 R9 ds) M:=by
 rintro ds M Q Z ⟨r,v,ss,x,rfl,hr,hl,q⟩
 have lt:=Zc (Z0 hr)
 delta b_Lclose R9
 walk_at "ev"
 have el:((ss++[x]).map seD)[((ss++[x]).map seD).length - 1]?=some (seD x):=by
  rw[List.map_append,List.length_append]
  simp
 refine⟨Za (Z0 hr),_,_,hr,el,?_⟩
 have dl:((ss++[x]).map seD).dropLast=ss.map seD:=by rw[List.map_append];simp
 rw[dl]
 have e1:Z4 (M.set r (.lst (ss.map seD))) r=some (ss.map seD):=Z9 lt
 have k1:Ks (·=r) M (M.set r (.lst (ss.map seD))):=(Ks.refl M).set (.inl rfl)
 have don:tss ⟨K,Γ,G⟩ noX S0 {nx:=fun _ M=>Q .non M,rt:=Q} [some (.ref r),some (.int v),some (seD x)] (M.set r (.lst (ss.map seD))):=by
  delta S0
  walk_at "ev"
  exact⟨Z1 (by decide),q .don ss _ (by rw[Td];rfl) (by omega) k1 e1⟩
 obtain⟨t,n⟩:=x
 cases t with
 | cif=>
  simp only[seD,Tp.s]
  walk_at "ev"
  refine⟨Zi (by decide) (by decide),?_⟩
  split
  ·refine⟨Za (Z0 e1),Z1 (by decide),_,e1,Zd (by rw[List.length_map];omega),Z1 (by decide),q .els (ss++[(.cel,-1)]) _ (by rw[Td,Td];rfl) (by simp) (k1.set (.inl rfl)) ?_⟩
   rw[Z9 (Zc (Z0 e1)),List.map_append]
   rfl
  ·exact don
 | _=>
  simp only[seD,Tp.s]
  walk_at "ev"
  exact don
end
section
variable{K:PySem.W.Frag}{Γ:List DSp}{G:List D}{a k nm r v w:Nat}{ss:List (Tp×Int)}{M0:Z2}{Q:DK}
theorem Zr5{α:Type}(xs:List α)(x:α):atI (xs++[x]) (-1)=some x:=by
 unfold atI ixN
 rw[if_neg (by decide),if_pos (by rw[List.length_append,List.length_singleton];omega)]
 show(xs++[x])[_]?=some x
 rw[show(-1+((xs++[x]).length:Int)).toNat=xs.length by rw[List.length_append,List.length_singleton];omega]
 simp
def Sw(r:Nat)(ss:List (Tp×Int))(M0:Z2)(Q:DK):Prop:=∀(l:Ln) (ss':List (Tp×Int)) M',stp (tps ss) l=some (tps ss')→ss'.length≤ss.length+1→Ks (·=r) M0 M'→Z4 M' r=some (ss'.map seD)→Q l.d M'
structure Sa(a nm r:Nat)(ss:List (Tp×Int))(M0 M:Z2):Prop where
 k:Kp M0 M
 s:Scr M a
 n:Nms M nm
 e:Z4 M r=some (ss.map seD)
 l:ss.length≤500
theorem Sa.mv{M M':Z2}(h:Sa a nm r ss M0 M)(k:Kp M M'):Sa a nm r ss M0 M':=⟨h.k.trans k,h.s.ks k fun z=>z,h.n.ks k fun z=>z,k.pW h.e,h.l⟩
noncomputable abbrev Se6(a k nm r v w:Nat)(d:D):DEnv:=[some (.ref a),some (.int k),some (.ref nm),some (.ref r),some (.int v),some (.int w),some d]
theorem st_2(g:Γ[13]?=some Zl){l:Ln}{M:Z2}(hl:l.pl=true)(S:Sa a nm r ss M0 M)(q:Sw r ss M0 Q):tss ⟨K,Γ,G⟩ noX Ru {nx:=fun _ M=>Q .non M,rt:=Q} (Se6 a k nm r v w l.d) M:=by
 have kr:Ks (·=r) M0 M:=S.k.mono fun _ _ z=>z.elim
 have put:∀(M1:Z2) (l:Ln) (x:Tp×Int),Kp M M1→stp (tps ss) l=some (x.1::tps ss)→tss ⟨K,Γ,G⟩ noX Wx {nx:=fun _ M=>Q .non M,rt:=Q} (Se6 a k nm r v w l.d) (M1.set r (.lst (ss.map seD++[seD x]))):=by
  intro M1 l x k1 e1
  delta Wx
  walk_at "ev"
  refine q l (ss++[x]) _ (by rw[Td];exact e1) (by simp) ((S.k.trans k1).mono (fun _ _ z=>z.elim) |>.set (.inl rfl)) ?_
  rw[Z9 (Zc (Z0 (k1.pW S.e))),List.map_append]
  rfl
 have stay:stp (tps ss) l=some (tps ss)→tss ⟨K,Γ,G⟩ noX Wx {nx:=fun _ M=>Q .non M,rt:=Q} (Se6 a k nm r v w l.d) M:=by
  intro e1
  delta Wx
  walk_at "ev"
  exact q l ss _ e1 (by omega) kr S.e
 delta Ru
 walk_at "ev"
 simp only[g]
 refine⟨l,rfl,?_⟩
 walk_at "ev"
 have hz:=S.l
 cases l with
 | cond x s y=>
  simp only[Ln.beg,Ln.d]
  walk_at "ev"
  refine⟨Za (Z0 S.e),Z1 (by decide),?_⟩
  refine ix_l (k:=1) (xs:=[x.d,.int (-1)]) (Zj _ _ []) rfl ⟨Z1 (by decide),_,Z8 S.e,Zd (by rw[List.length_map];omega),?_⟩
  exact put (M++[.lst [x.d,.int (-1)]]) (.cond x s y) (.cif,-1) (Ks.new _ _) rfl
 | rnd n=>
  simp only[Ln.beg,Ln.d]
  walk_at "ev"
  refine⟨Za (Z0 S.e),Z1 (by decide),?_⟩
  refine ix_l (k:=0) (xs:=[.int n,.int (-1)]) (Zj _ _ []) rfl ⟨Z1 (by decide),_,Z8 S.e,Zd (by rw[List.length_map];omega),?_⟩
  exact put (M++[.lst [.int n,.int (-1)]]) (.rnd n) (.crd,n) (Ks.new _ _) rfl
 | prt n=>
  simp only[Ln.beg,Ln.d]
  walk_at "ev"
  refine⟨Za (Z0 S.e),Z1 (by decide),?_⟩
  refine ix_l (k:=0) (xs:=[.int n,.int (-1)]) (Zj _ _ []) rfl ⟨Z1 (by decide),_,Z8 S.e,Zd (by rw[List.length_map];omega),?_⟩
  exact put (M++[.lst [.int n,.int (-1)]]) (.prt n) (.cpt,n) (Ks.new _ _) rfl
 | els=>cases hl
 | don=>cases hl
 | _=>exact stay rfl
def Lo(d:D):Prop:=d= .non∨∃l:Ln,l.pl=true∧d=l.d
theorem st_3(g:Γ[13]?=some Zl)(gd:Γ[14]?=some Yq){d:D}{M:Z2}(hd:Lo d)(S:Sa a nm r ss M0 M)(q:Sw r ss M0 Q):tss ⟨K,Γ,G⟩ noX Tg {nx:=fun _ M=>Q .non M,rt:=Q} (Se6 a k nm r v w d) M:=by
 delta Tg
 rcases hd with rfl | ⟨l,hl,rfl⟩
 ·walk_at "ev"
  simp only[gd]
  obtain⟨u,hu⟩:∃u:Nat,qdiv (v:Int) 24 * 24+18=u:=by
   rw[qd (by decide)]
   exact⟨((v:Int) / 24 * 24+18).toNat,by omega⟩
  refine⟨Zi (by decide) (by decide),mulR (by decide) (by decide),a,k,nm,u,by rw[hu],S.s,S.n,fun l M' hl k'=>?_⟩
  try walk_at "ev"
  exact st_2 g hl (S.mv k') q
 ·have key:=st_2 (K:=K) (G:=G) (k:=k) (v:=v) (w:=w) g hl S q
  cases l<;>simp only[Ln.d] at key ⊢ <;>walk_at "ev" <;>exact key
theorem st_4(g:Γ[13]?=some Zl)(gd:Γ[14]?=some Yq){d:D}{M:Z2}(hd:Lo d)(S:Sa a nm r ss M0 M)(q:Sw r ss M0 Q):tss ⟨K,Γ,G⟩ noX Wy {nx:=fun _ M=>Q .non M,rt:=Q} (Se6 a k nm r v w d) M:=by
 have nx:∀{d:D} {M:Z2},Lo d→Sa a nm r ss M0 M→tss ⟨K,Γ,G⟩ noX Tg {nx:=fun _ M=>Q .non M,rt:=Q} (Se6 a k nm r v w d) M:=fun hd S=>st_3 g gd hd S q
 delta Wy
 walk_at "ev"
 split
 ·refine⟨Z1 (by decide),Tl (Z7 (Z0 S.e)) (Zj _ _ []) ?_⟩
  have S1:Sa a nm r ss M0 (M++[.lst []]):=S.mv (Ks.new _ _)
  rcases List.eq_nil_or_concat ss with rfl | ⟨tl,x,rfl⟩
  ·exact nx hd S1
  ·have e1:((tl.concat x).map seD).isEmpty=false:=by simp
   rw[e1,if_pos rfl]
   refine Qf (Z0 S1.e) (show atI ((tl.concat x).map seD) (-1)=some (seD x) by rw[List.concat_eq_append,List.map_append];exact Zr5 _ _) ?_
   simp only[seD]
   walk_at "ev"
   refine⟨Z1 (by decide),.inl ⟨_,Zj _ _ [],rfl,rfl,?_⟩⟩
   have S2:=S1.mv (Ks.new (M++[.lst []]) [.lst [.str "if",.str "else"]])
   dsimp only
   split
   ·exact⟨Z1 (by decide),nx (d:=(Ln.fin).d) (.inr ⟨.fin,rfl,rfl⟩) S2⟩
   ·exact nx hd S2
 ·exact nx hd S
theorem st_5(g:Γ[13]?=some Zl)(gd:Γ[14]?=some Yq)(gg:Γ[15]?=some Yv){d:D}{M:Z2}(hd:Lo d)(S:Sa a nm r ss M0 M)(q:Sw r ss M0 Q):tss ⟨K,Γ,G⟩ noX Vi {nx:=fun _ M=>Q .non M,rt:=Q} (Se6 a k nm r v w d) M:=by
 have nx:∀{d:D} {M:Z2},Lo d→Sa a nm r ss M0 M→tss ⟨K,Γ,G⟩ noX Wy {nx:=fun _ M=>Q .non M,rt:=Q} (Se6 a k nm r v w d) M:=fun hd S=>st_4 g gd hd S q
 delta Vi
 walk_at "ev"
 simp only[gg]
 have hz:=S.l
 have go:Yv [.ref r,.int v] M (fun d' M'=>tss ⟨K,Γ,G⟩ noX Wy {nx:=fun _ M=>Q .non M,rt:=Q} (Se6 a k nm r v w d') M') noX:=
  ⟨r,v,ss,rfl,Z0 S.e,by omega,fun M' k'=>⟨nx (.inl rfl) (S.mv k'),fun l hl=>nx (.inr ⟨l,hl,rfl⟩) (S.mv k')⟩⟩
 split
 ·split
  ·exact go
  ·exact nx hd S
 ·exact nx hd S
theorem st_6(g:Γ[13]?=some Zl)(gd:Γ[14]?=some Yq)(gg:Γ[15]?=some Yv)(gc:Γ[17]?=some Ym){d:D}{M:Z2}(hd:Lo d)(S:Sa a nm r ss M0 M)(q:Sw r ss M0 Q):tss ⟨K,Γ,G⟩ noX Vf {nx:=fun _ M=>Q .non M,rt:=Q} (Se6 a k nm r v w d) M:=by
 have nx:∀{d:D} {M:Z2},Lo d→Sa a nm r ss M0 M→tss ⟨K,Γ,G⟩ noX Vi {nx:=fun _ M=>Q .non M,rt:=Q} (Se6 a k nm r v w d) M:=fun hd S=>st_5 g gd gg hd S q
 delta Vf
 walk_at "ev"
 simp only[gc]
 have hz:=S.l
 have cl:sizeLine ≥ 0∧eqD (M++[.lst []]) (.ref r) (.ref M.length) fun b=>if b=false then Ym [.ref r,.int v] (M++[.lst []]) Q noX else tss ⟨K,Γ,G⟩ noX Vi {nx:=fun _ M=>Q .non M,rt:=Q} (Se6 a k nm r v w d) (M++[.lst []]):=by
  refine⟨Nat.zero_le _,Tl (Z7 (Z0 S.e)) (Zj _ _ []) ?_⟩
  have S1:Sa a nm r ss M0 (M++[.lst []]):=S.mv (Ks.new _ _)
  rcases List.eq_nil_or_concat ss with rfl | ⟨tl,x,rfl⟩
  ·exact nx hd S1
  ·have e1:((tl.concat x).map seD).isEmpty=false:=by simp
   rw[e1,if_pos rfl]
   rw[List.concat_eq_append] at S1 q hz
   refine⟨r,v,tl,x,rfl,S1.e,by rw[List.length_append] at hz;omega,fun l ss' M' h1 h2 h3 h4=>q l ss' M' h1 (by rw[List.length_append,List.length_singleton];omega) ?_ h4⟩
   exact(S1.k.mono fun _ _ z=>z.elim).trans h3
 split
 ·split
  ·exact cl
  ·exact nx hd S
 ·exact nx hd S
theorem st_7(g:Γ[13]?=some Zl)(gd:Γ[14]?=some Yq)(gg:Γ[15]?=some Yv)(gc:Γ[17]?=some Ym)(gf:Γ[16]?=some Yn){d:D}{M:Z2}(hd:Lo d)(S:Sa a nm r ss M0 M)(q:Sw r ss M0 Q):tss ⟨K,Γ,G⟩ noX Tc {nx:=fun _ M=>Q .non M,rt:=Q} (Se6 a k nm r v w d) M:=by
 have nx:∀{d:D} {M:Z2},Lo d→Sa a nm r ss M0 M→tss ⟨K,Γ,G⟩ noX Vf {nx:=fun _ M=>Q .non M,rt:=Q} (Se6 a k nm r v w d) M:=fun hd S=>st_6 g gd gg gc hd S q
 delta Tc
 walk_at "ev"
 simp only[gf]
 split
 ·split
  ·refine Y4 (Z0 S.e) ?_
   walk_at "ev"
   split
   ·refine⟨Z1 (by decide),?_⟩
    have fin:∀(i:Nat) (c:Int→Ln),(∀n,(c n).pl=true)→(∀n:Int,(c n).d= .tup [[D.str "round",D.str "part"].getD i .non,.int n])→i<2→ixD (M++[.lst [.str "round",.str "part"]]) (.ref M.length) (.int (i:Nat)) fun d=>Yn [.ref a] (M++[.lst [.str "round",.str "part"]]) (fun x M1=>IntMulOk 97 (k:Int)∧opD .add x (.int (97 * (k:Int))) M1 fun x M1=>opD .mod x (.int 10000) M1 fun d1 M1=>2≤sizeLine∧tss ⟨K,Γ,G⟩ noX Vf {nx:=fun _ M=>Q .non M,rt:=Q} [some (.ref a),some (.int k),some (.ref nm),some (.ref r),some (.int v),some (.int w),some (.tup [d,d1])] M1) noX:=by
     intro i c h1 h2 hi
     refine ix_l (k:=i) (d:=[D.str "round",D.str "part"].getD i .non) (Zj _ _ []) ?_ ?_
     ·rw[List.getD_eq_getElem?_getD,List.getElem?_eq_getElem (by simpa using hi)]
      rfl
     have S1:Sa a nm r ss M0 (M++[.lst [.str "round",.str "part"]]):=S.mv (Ks.new _ _)
     refine⟨a,rfl,S1.s,fun n M' k'=>⟨mulL (by decide) (by decide),?_⟩⟩
     walk_at "ev"
     refine⟨Z1 (by decide),?_⟩
     rw[←h2]
     exact nx (.inr ⟨_,h1 _,rfl⟩) (S1.mv k')
    split
    ·exact fin 1 .prt (fun _=>rfl) (fun _=>rfl) (by decide)
    ·exact fin 0 .rnd (fun _=>rfl) (fun _=>rfl) (by decide)
   ·exact nx hd S
  ·exact nx hd S
 ·exact nx hd S
theorem Zm8(gm:Γ[7]?=some X5)(g:Γ[13]?=some Zl)(gd:Γ[14]?=some Yq)(gg:Γ[15]?=some Yv)(gc:Γ[17]?=some Ym)(gf:Γ[16]?=some Yn):∀ds M Q Z,Wc ds M Q Z→tss ⟨K,Γ,G⟩ noX b_Lstep {nx:=fun _ M=>Q .non M,rt:=Q} (start0 Os ds) M:=by
 rintro ds M Q Z ⟨a,k,nm,r,ss,rfl,hs,hn,_,_,hk,he,hl,q⟩
 have S:Sa a nm r ss M M:=⟨Ks.refl M,hs,hn,he,hl⟩
 delta b_Lstep Os
 walk_at "ev"
 simp only[gm]
 refine⟨a,k,rfl,hs,by omega,fun v hv=>?_⟩
 walk_at "ev"
 rw[qm (by decide)]
 obtain⟨w,hw⟩:∃w:Nat,(v:Int) % 24=w:=⟨((v:Int) % 24).toNat,by omega⟩
 rw[hw]
 have nx:∀{d:D} {M':Z2},Lo d→Sa a nm r ss M M'→tss ⟨K,Γ,G⟩ noX Tc {nx:=fun _ M=>Q .non M,rt:=Q} (Se6 a k nm r v w d) M':=fun hd S=>st_7 g gd gg gc gf hd S q
 split
 ·refine Y4 (Z0 S.e) ?_
  walk_at "ev"
  split
  ·simp only[gd]
   exact⟨a,k,nm,v,rfl,hs,hn,fun l M' hl k'=>nx (.inr ⟨l,hl,rfl⟩) (S.mv k')⟩
  ·exact nx (.inl rfl) S
 ·exact nx (.inl rfl) S
end
def Xj:DSp:=fun ds M Q _=>∃(a many:Nat),ds=[.ref a,.int many]∧Scr M a∧many≤60∧∀(ls:List Ln) M' r,run [] ls=some []→ls.length≤120→Kp M M'→Z4 M' r=some (ls.map Ln.d)→M.length≤r→Q (.ref r) M'
section
variable{K:PySem.W.Frag}{Γ:List DSp}{G:List D}
theorem Zd8(gn:Γ[11]?=some Y6)(gs:Γ[18]?=some Wc):∀ds M Q Z,Xj ds M Q Z→tss ⟨K,Γ,G⟩ noX b_Llines {nx:=fun _ M=>Q .non M,rt:=Q} (start0 Re ds) M:=by
 rintro ds M Q Z ⟨a,many,rfl,hs,hm,q⟩
 have ha:a<M.length:=by obtain⟨ns,e,_⟩:=hs;exact Zc e
 delta b_Llines Re
 walk_at "ev"
 simp only[gn]
 refine⟨a,rfl,hs,fun nl M1 nm hl k1 en=>?_⟩
 walk_at "ev"
 refine⟨Z1 (by decide),Z1 (by decide),by omega,by omega,?_⟩
 rw[Int.toNat_natCast,List.append_assoc]
 have hnm:=Zc en
 refine Om (fun i σ M'=>∃(d:Option D) (ls:List Ln) (ss:List (Tp×Int)),σ=[some (.ref a),some (.int many),some (.ref nm),some (.ref M1.length),some (.ref (M1.length+1)),d]∧Kp M1 M'∧Z4 M' M1.length=some (ls.map Ln.d)∧Z4 M' (M1.length+1)=some (ss.map seD)∧run [] ls=some (tps ss)∧ls.length≤i∧ss.length≤i)
  ⟨none,[],[],by simp,Ks.new _ _,Z6 _ _ _,Xn _ _ 1,rfl,Nat.le_refl _,Nat.le_refl _⟩ ?_ ?_
 ·rintro i σ M' C hi ⟨d,ls,ss,rfl,k,e1,e2,er,l1,l2⟩ hC
  (delta Po;simp only[Int.zero_add])
  walk_at "ev"
  simp only[gs]
  refine⟨Za (Z0 e1),a,i,nm,M1.length+1,ss,rfl,(hs.ks (k1.trans k) fun z=>z),⟨nl,hl,k.pL en⟩,by have:=k1.len;omega,by omega,by omega,e2,by omega,fun l ss' M2 h1 h2 h3 h4=>?_⟩
  have e1':Z4 M2 M1.length=some (ls.map Ln.d):=h3.W (by omega) e1
  walk_at "ev"
  refine⟨_,e1',Zd (by rw[List.length_map];omega),hC _ _ ⟨_,ls++[l],ss',rfl,?_,?_,?_,?_,by simp;omega,by omega⟩⟩
  ·exact⟨fun b n hb=>by
    rw[List.getElem?_set_ne (by omega),h3.at' b (by omega) (Nat.lt_of_lt_of_le hb k.len)]
    exact k.at' b n hb,by rw[List.length_set];exact Nat.le_trans k.len h3.len⟩
  ·rw[Z9 (Zc (Z0 e1')),List.map_append]
   rfl
  ·rw[Zb (by omega)]
   exact h4
  ·rw[O8,er]
   show(stp (tps ss) l).bind _=_
   rw[h1]
   rfl
 ·rintro σ M' ⟨d,ls,ss,rfl,k,e1,e2,er,l1,l2⟩
  delta Pl
  refine U.Pw (c:=⟨K,Γ,G⟩) (X:=noX) (fun σ M'=>∃(ls:List Ln) (ss:List (Tp×Int)),σ=[some (.ref a),some (.int many),some (.ref nm),some (.ref M1.length),some (.ref (M1.length+1)),d]∧Kp M1 M'∧Z4 M' M1.length=some (ls.map Ln.d)∧Z4 M' (M1.length+1)=some (ss.map seD)∧run [] ls=some (tps ss)∧ls.length+ss.length≤120) (fun σ M'=>((Z4 M' (M1.length+1)).getD []).length) ⟨ls,ss,rfl,k,e1,e2,er,by omega⟩ ?_
  rintro σ M' ⟨ls,ss,rfl,k,e1,e2,er,l1⟩
  walk_at "ev"
  refine⟨Z1 (by decide),Tl (Z7 (Z0 e2)) (Zj _ _ []) ?_⟩
  try walk_at "ev"
  have k':Kp M1 (M'++[.lst []]):=k.app _
  have e1':=Z8 (N:=[.lst []]) e1
  have e2':=Z8 (N:=[.lst []]) e2
  rcases List.eq_nil_or_concat ss with rfl | ⟨tl,x,rfl⟩
  ·simp only[Pe,List.map_nil,List.isEmpty_nil]
   walk_at "ev"
   exact q ls _ _ er (by simp at l1;omega) (k1.trans k') e1' k1.len
  ·rw[List.concat_eq_append] at e2' er l1 e2 ⊢
   have en1:((tl++[x]).map seD).isEmpty=false:=by simp
   rw[en1]
   delta Pj
   walk_at "ev"
   have el:((tl++[x]).map seD)[((tl++[x]).map seD).length - 1]?=some (seD x):=by rw[List.map_append,List.length_append];simp
   have dl:((tl++[x]).map seD).dropLast=tl.map seD:=by rw[List.map_append];simp
   have lt2:=Zc (Z0 e2')
   refine⟨Za (Z0 e2'),_,_,e2',el,?_⟩
   rw[dl]
   have e3:Z4 (List.set (M'++[Cell.lst []]) (M1.length+1) (Cell.lst (tl.map seD))) M1.length=some (ls.map Ln.d):=by rw[Zb (by omega)];exact e1'
   simp only[List.length_append,List.length_singleton] at l1
   refine⟨Za (Z0 e3),Z1 (by decide),_,e3,Zd (by rw[List.length_map];omega),⟨ls++[.don],tl,(k'.set (.inr (by omega))).set (.inr (Nat.le_refl _)),?_,?_,?_,by simp;omega⟩,?_⟩
   ·rw[Z9 (Zc (Z0 e3)),List.map_append]
    rfl
   ·rw[Zb (by omega)]
    exact Z9 lt2
   ·rw[O8,er,Td]
    rfl
   ·rw[Zb (by omega),Z9 lt2,e2]
    simp
end
inductive T where
 | leaf (l:Ln) | home (r:Bool) (n:Int) (b:List T) | cho (a:Opd) (s:Str) (b:Opd) (y n:List T)
structure Fr where
 h:Option Ln
 y:Option (List T)
 n:List T
noncomputable def Fr.mk'(f:Fr):T:=match f.h with
 | some (.rnd k)=> .home true k f.n
 | some (.prt k)=> .home false k f.n
 | some (.cond a s b)=>match f.y with
  | none=> .cho a s b f.n []
  | some y=> .cho a s b y f.n
 | _=> .leaf .fin
noncomputable def nst(fs:List Fr)(l:Ln):List Fr:=match l with
 | .cond a s b=>⟨some (.cond a s b),none,[]⟩::fs
 | .rnd n=>⟨some (.rnd n),none,[]⟩::fs
 | .prt n=>⟨some (.prt n),none,[]⟩::fs
 | .els=>match fs with
  | f::r=>⟨f.h,some f.n,[]⟩::r
  | []=>[]
 | .don=>match fs with
  | f::g::r=>⟨g.h,g.y,g.n++[f.mk']⟩::r
  | r=>r
 | l=>match fs with
  | f::r=>⟨f.h,f.y,f.n++[.leaf l]⟩::r
  | []=>[]
noncomputable def fr0:Fr:=⟨none,none,[]⟩
noncomputable def nest(ls:List Ln):List T:=match ls.foldl nst [fr0] with
 | [f]=>f.n
 | _=>[]
def Fr.is(f:Fr):Tp→Prop
 | .cif=>f.y=none∧∃a s b,f.h=some (.cond a s b)
 | .cel=>f.y.isSome=true∧∃a s b,f.h=some (.cond a s b)
 | .crd=>f.y=none∧∃n,f.h=some (.rnd n)
 | .cpt=>f.y=none∧∃n,f.h=some (.prt n)
def Fss:List Tp→List Fr→Prop
 | [],fs=>∃n,fs=[⟨none,none,n⟩]
 | t::ts,fs=>∃f r,fs=f::r∧f.is t∧Fss ts r
theorem Fss.top{ts:List Tp}{fs:List Fr}(h:Fss ts fs):∃f r,fs=f::r∧∀n,Fss ts (⟨f.h,f.y,n⟩::r):=by
 cases ts with
 | nil=>obtain⟨n,rfl⟩:=h;exact⟨_,_,rfl,fun n=>⟨n,rfl⟩⟩
 | cons t ts=>obtain⟨f,r,rfl,h1,h2⟩:=h;exact⟨f,r,rfl,fun n=>⟨_,_,rfl,by cases t<;>exact h1,h2⟩⟩
theorem G7{ts ts':List Tp}(h:stp ts .els=some ts'):∃r,ts= .cif::r∧ts'= .cel::r:=by
 match ts,h with
 | .cif::ts,h=>cases h;exact⟨ts,rfl,rfl⟩
theorem O3{ts ts':List Tp}(h:stp ts .don=some ts'):∃t,ts=t::ts':=by
 match ts,h with
 | t::ts,h=>cases h;exact⟨t,rfl⟩
theorem Fss.step{fs:List Fr}{ts ts':List Tp}{l:Ln}(h:Fss ts fs)(e:stp ts l=some ts'):Fss ts' (nst fs l):=by
 cases l with
 | cond a s b=>cases e;exact⟨_,_,rfl,⟨rfl,a,s,b,rfl⟩,h⟩
 | rnd n=>cases e;exact⟨_,_,rfl,⟨rfl,n,rfl⟩,h⟩
 | prt n=>cases e;exact⟨_,_,rfl,⟨rfl,n,rfl⟩,h⟩
 | els=>
  obtain⟨r,rfl,rfl⟩:=G7 e
  obtain⟨f,fr,rfl,h1,h2⟩:=h
  exact⟨_,_,rfl,⟨rfl,h1.2⟩,h2⟩
 | don=>
  obtain⟨t,rfl⟩:=O3 e
  obtain⟨f,fr,rfl,h1,h2⟩:=h
  obtain⟨g,r,rfl,h3⟩:=h2.top
  exact h3 _
 | _=>
  cases e
  obtain⟨g,r,rfl,h3⟩:=h.top
  exact h3 _
theorem Fss.run{ls:List Ln}:∀{fs:List Fr} {ts ts':List Tp},Fss ts fs→run ts ls=some ts'→Fss ts' (ls.foldl nst fs):=by
 induction ls with
 | nil=>intro fs ts ts' h e;cases e;exact h
 | cons l ls ih=>
  intro fs ts ts' h e
  change (stp ts l).bind _=_ at e
  cases e1:stp ts l with
  | none=>rw[e1] at e;cases e
  | some t=>rw[e1] at e;exact ih (h.step e1) e
theorem Gk{ls:List Ln}(h:run [] ls=some []):ls.foldl nst [fr0]=[⟨none,none,nest ls⟩]:=by
 obtain⟨n,h1⟩:=Fss.run (fs:=[fr0]) (ts:=[]) ⟨[],rfl⟩ h
 unfold nest
 rw[h1]
mutual
noncomputable def fl:T→List Ln
 | .leaf l=>[l]
 | .home r n b=>(if r then .rnd n else .prt n)::(fls b++[.don])
 | .cho a s b y n=> .cond a s b::(fls y++((match n with | []=>[] | t::ts=> .els::(fl t++fls ts))++[.don]))
noncomputable def fls:List T→List Ln
 | []=>[]
 | t::ts=>fl t++fls ts
end
theorem Xa(xs ys:List T):fls (xs++ys)=fls xs++fls ys:=by
 induction xs with
 | nil=>rw[List.nil_append];unfold fls;rfl
 | cons x xs ih=>rw[List.cons_append];show fl x++fls (xs++ys)=(fl x++fls xs)++fls ys;rw[ih,List.append_assoc]
theorem Wb:fls []=[]:=rfl
theorem Yt(t:T)(ts:List T):fls (t::ts)=fl t++fls ts:=rfl
theorem T6(l:Ln):fl (.leaf l)=[l]:=rfl
theorem T5(r:Bool)(n:Int)(b:List T):fl (.home r n b)=(if r then .rnd n else .prt n)::(fls b++[.don]):=rfl
theorem Vy(a:Opd)(s:Str)(b:Opd)(y:List T):fl (.cho a s b y [])= .cond a s b::(fls y++[.don]):=rfl
theorem S8(a:Opd)(s:Str)(b:Opd)(y:List T)(t:T)(ts:List T):fl (.cho a s b y (t::ts))= .cond a s b::(fls y++(.els::fls (t::ts)++[.don])):=rfl
noncomputable def notE:Ln→Bool
 | .els=>false
 | _=>true
noncomputable def noE(ls:List Ln):List Ln:=ls.filter notE
theorem Jr(a b:List Ln):noE (a++b)=noE a++noE b:=List.filter_append ..
noncomputable def ffl(f:Fr):List Ln:=(match f.h with | some l=>[l] | none=>[])++noE (match f.y with | some y=>fls y | none=>[])++noE (fls f.n)
noncomputable def fsl:List Fr→List Ln
 | []=>[]
 | f::fs=>fsl fs++ffl f
theorem Zu2{f:Fr}{t:Tp}(h:f.is t):noE (fl f.mk')=ffl f++[.don]:=by
 obtain⟨h',y,n⟩:=f
 cases t with
 | cif=>
  obtain⟨rfl,a,s,b,rfl⟩:=h
  show noE (fl (.cho a s b n []))=_
  rw[Vy]
  show noE (Ln.cond a s b::_)=_
  unfold ffl noE
  simp[notE,List.filter_cons]
 | cel=>
  obtain⟨hy,a,s,b,rfl⟩:=h
  cases y with
  | none=>cases hy
  | some y=>
   show noE (fl (.cho a s b y n))=_
   cases n with
   | nil=>
    rw[Vy]
    unfold ffl noE
    simp[notE,Wb,List.filter_cons]
   | cons t ts=>
    rw[S8]
    unfold ffl noE
    simp[notE,List.filter_cons]
 | crd=>
  obtain⟨rfl,k,rfl⟩:=h
  show noE (fl (.home true k n))=_
  rw[T5]
  unfold ffl noE
  simp[notE,List.filter_cons]
 | cpt=>
  obtain⟨rfl,k,rfl⟩:=h
  show noE (fl (.home false k n))=_
  rw[T5]
  unfold ffl noE
  simp[notE,List.filter_cons]
theorem Zc8{fs:List Fr}{ts ts':List Tp}{l:Ln}(h:Fss ts fs)(e:stp ts l=some ts'):fsl (nst fs l)=fsl fs++noE [l]:=by
 cases l with
 | cond a s b=>simp[nst,fsl,ffl,noE,notE,Wb,List.filter_cons]
 | rnd n=>simp[nst,fsl,ffl,noE,notE,Wb,List.filter_cons]
 | prt n=>simp[nst,fsl,ffl,noE,notE,Wb,List.filter_cons]
 | els=>
  obtain⟨r,rfl,rfl⟩:=G7 e
  obtain⟨f,fr,rfl,⟨h1,_⟩,h2⟩:=h
  simp[nst,fsl,ffl,noE,notE,Wb,h1,List.filter_cons]
 | don=>
  obtain⟨t,rfl⟩:=O3 e
  obtain⟨f,fr,rfl,h1,h2⟩:=h
  obtain⟨g,fs,rfl,h3⟩:=h2.top
  show fsl fs++ffl _=(fsl fs++ffl g)++ffl f++_
  have:ffl ⟨g.h,g.y,g.n++[f.mk']⟩=ffl g++noE (fl f.mk'):=by
   unfold ffl
   rw[Xa,Jr,Yt,Wb,List.append_nil]
   simp
  rw[this,Zu2 h1]
  simp[noE,notE,List.filter_cons]
 | _=>
  obtain⟨g,fs,rfl,h3⟩:=h.top
  simp[nst,fsl,ffl,noE,notE,Xa,Yt,Wb,T6,List.filter_cons]
theorem Zl6{ls:List Ln}:∀{fs:List Fr} {ts ts':List Tp},Fss ts fs→run ts ls=some ts'→fsl (ls.foldl nst fs)=fsl fs++noE ls:=by
 induction ls with
 | nil=>intro fs ts ts' h e;simp[noE]
 | cons l ls ih=>
  intro fs ts ts' h e
  change (stp ts l).bind _=_ at e
  cases e1:stp ts l with
  | none=>rw[e1] at e;cases e
  | some t=>
   rw[e1] at e
   show fsl (ls.foldl nst (nst fs l))=_
   rw[ih (h.step e1) e,Zc8 h e1,List.append_assoc,←Jr]
   rfl
theorem Qq{ls:List Ln}(h:run [] ls=some []):noE (fls (nest ls))=noE ls:=by
 have h1:=Zl6 (fs:=[fr0]) (ts:=[]) ⟨[],rfl⟩ h
 rw[Gk h] at h1
 simpa[fsl,ffl,fr0,Wb,noE] using h1
mutual
def RT(C:Nat→Prop)(M:Z2):T→D→Prop
 | .leaf l,d=>d=l.d∧l.pl=true∧l.beg=false
 | .home r n b,d=>∃c ds,d= .tup [.str (if r then "round" else "part"),.int n,.ref c]∧C c∧Z4 M c=some ds∧RTs C M b ds
 | .cho a s b y n,d=>∃c1 c2 d1 d2,d= .tup [.str "choice",a.d,.str s,b.d,.ref c1,.ref c2]∧C c1∧C c2∧Z4 M c1=some d1∧RTs C M y d1∧Z4 M c2=some d2∧RTs C M n d2
def RTs(C:Nat→Prop)(M:Z2):List T→List D→Prop
 | [],ds=>ds=[]
 | t::ts,ds=>∃d r,ds=d::r∧RT C M t d∧RTs C M ts r
end
theorem X8{M M':Z2}{a:Nat}(h:M'[a]?=M[a]?):Z4 M' a=Z4 M a:=by unfold Z4;rw[h]
mutual
theorem RT.keep{C C':Nat→Prop}{M M':Z2}(hC:∀c,C c→C' c)(k:∀c,C c→M'[c]?=M[c]?):∀{t:T} {d:D},RT C M t d→RT C' M' t d
 | .leaf l,d,h=>h
 | .home r n b,d,⟨c,ds,e,h1,h2,h3⟩=>⟨c,ds,e,hC c h1,by rw[X8 (k c h1)];exact h2,RTs.keep hC k h3⟩
 | .cho a s b y n,d,⟨c1,c2,d1,d2,e,h1,h2,h3,h4,h5,h6⟩=>⟨c1,c2,d1,d2,e,hC c1 h1,hC c2 h2,by rw[X8 (k c1 h1)];exact h3,RTs.keep hC k h4,by rw[X8 (k c2 h2)];exact h5,RTs.keep hC k h6⟩
theorem RTs.keep{C C':Nat→Prop}{M M':Z2}(hC:∀c,C c→C' c)(k:∀c,C c→M'[c]?=M[c]?):∀{ts:List T} {ds:List D},RTs C M ts ds→RTs C' M' ts ds
 | [],ds,h=>h
 | t::ts,ds,⟨d,r,e,h1,h2⟩=>⟨d,r,e,RT.keep hC k h1,RTs.keep hC k h2⟩
end
theorem RTs.len{C:Nat→Prop}{M:Z2}:∀{ts:List T} {ds:List D},RTs C M ts ds→ds.length=ts.length
 | [],ds,h=>by cases h;rfl
 | t::ts,ds,⟨d,r,e,h1,h2⟩=>by rw[e,List.length_cons,List.length_cons,RTs.len h2]
theorem RTs.app{C:Nat→Prop}{M:Z2}:∀{ts us:List T} {ds es:List D},RTs C M ts ds→RTs C M us es→RTs C M (ts++us) (ds++es)
 | [],us,ds,es,h,g=>by cases h;exact g
 | t::ts,us,ds,es,⟨d,r,e,h1,h2⟩,g=>by rw[e];exact⟨d,r++es,rfl,h1,RTs.app h2 g⟩
theorem RTs.one{C:Nat→Prop}{M:Z2}{t:T}{d:D}(h:RT C M t d):RTs C M [t] [d]:=⟨d,[],rfl,h,rfl⟩
structure CF where
 q:Nat
 n:Nat
 h:Option Ln
 y:Option (Nat×List T)
 t:List T
noncomputable def CF.hd(f:CF):D:=match f.h with
 | none=> .tup [.str "form"]
 | some l=>l.d
noncomputable def CF.yd(f:CF):D:=match f.y with
 | none=> .non
 | some (c,_)=> .ref c
noncomputable def CF.abs(f:CF):Fr:=⟨f.h,f.y.map (·.2),f.t⟩
structure CFok(C:Nat→Prop)(M:Z2)(f:CF):Prop where
 q:Z4 M f.q=some [f.hd,f.yd,.ref f.n]
 n:∃ds,Z4 M f.n=some ds∧RTs C M f.t ds
 y:∀c ts,f.y=some (c,ts)→C c∧∃ds,Z4 M c=some ds∧RTs C M ts ds
theorem CFok.keep{C C':Nat→Prop}{M M':Z2}{f:CF}(h:CFok C M f)(hC:∀c,C c→C' c)(k:∀c,C c→M'[c]?=M[c]?)(kq:M'[f.q]?=M[f.q]?)(kn:M'[f.n]?=M[f.n]?):CFok C' M' f:=by
 obtain⟨h1,⟨ds,h2,h3⟩,h4⟩:=h
 refine⟨by rw[X8 kq];exact h1,⟨ds,by rw[X8 kn];exact h2,h3.keep hC k⟩,fun c ts e=>?_⟩
 obtain⟨g1,ds,g2,g3⟩:=h4 c ts e
 exact⟨hC c g1,ds,by rw[X8 (k c g1)];exact g2,g3.keep hC k⟩
structure NI(M0:Z2)(p:Nat)(cfs:List CF)(C:Nat→Prop)(M:Z2):Prop where
 k:Kp M0 M
 o:Z4 M p=some (cfs.map fun f=> .ref f.q)
 ok:∀f∈cfs,CFok C M f
 d0:¬C p∧M0.length≤p
 d1:∀f∈cfs,f.q≠p∧f.n≠p∧f.q≠f.n∧¬C f.q∧¬C f.n∧M0.length≤f.q∧M0.length≤f.n
 d2:cfs.Pairwise fun f g=>f.q≠g.q∧f.q≠g.n∧f.n≠g.q∧f.n≠g.n
 cl:∀c,C c→M0.length≤c∧c<M.length
theorem CFok.lt{C:Nat→Prop}{M:Z2}{f:CF}(h:CFok C M f):f.q<M.length∧f.n<M.length:=by
 obtain⟨ds,h2,_⟩:=h.n
 exact⟨Zc (Z0 h.q),Zc (Z0 h2)⟩
theorem Xe{M:Z2}{a b:Nat}{c:Cell}(h:a≠b):(M.set a c)[b]?=M[b]?:=List.getElem?_set_ne h
theorem Q7{M N:Z2}{b:Nat}(h:b<M.length):(M++N)[b]?=M[b]?:=List.getElem?_append_left h
section
variable{M0 M:Z2}{p:Nat}{cfs init:List CF}{C:Nat→Prop}{f g:CF}
theorem NI.plt(I:NI M0 p cfs C M):p<M.length:=Zc (Z0 I.o)
theorem NI.push(I:NI M0 p cfs C M)(l:Ln):NI M0 p (cfs++[⟨M.length+1,M.length,some l,none,[]⟩]) C (List.set (M++[Cell.lst []]++[Cell.lst [l.d,.non,.ref M.length]]) p (.lst ((cfs.map fun f=> .ref f.q)++[.ref (M.length+1)]))):=by
 have hp:=I.plt
 have at':∀b,b≠p→b<M.length→(List.set (M++[Cell.lst []]++[Cell.lst [l.d,.non,.ref M.length]]) p (.lst ((cfs.map fun f=> .ref f.q)++[.ref (M.length+1)])))[b]?=M[b]?:=fun b h1 h2=>by
  rw[Xe (Ne.symm h1),List.append_assoc,Q7 h2]
 have nc:∀c,C c→c≠p:=fun c h z=>I.d0.1 (z ▸ h)
 have lc:∀c,C c→c<M.length:=fun c h=>(I.cl c h).2
 refine⟨((I.k.app _).app _).set (.inr I.d0.2),?_,?_,I.d0,?_,?_,fun c h=>⟨(I.cl c h).1,?_⟩⟩
 ·rw[Z9 (by rw[List.length_append,List.length_append];omega),List.map_append]
  rfl
 ·intro f hf
  rcases List.mem_append.mp hf with hf | hf
  ·obtain⟨h1,h2,_⟩:=I.d1 f hf
   have h3:=(I.ok f hf).lt
   exact(I.ok f hf).keep (fun _ h=>h) (fun c h=>at' c (nc c h) (lc c h)) (at' _ h1 h3.1) (at' _ h2 h3.2)
  ·cases List.mem_singleton.mp hf
   refine⟨?_,⟨[],?_,rfl⟩,fun c ts e=>by cases e⟩
   ·show Z4 _ (M.length+1)=some [l.d,.non,.ref M.length]
    rw[Zb (by omega),List.append_assoc,Xn]
    rfl
   ·show Z4 _ M.length=some []
    rw[Zb (by omega),List.append_assoc]
    exact Z6 _ _ _
 ·intro f hf
  rcases List.mem_append.mp hf with hf | hf
  ·exact I.d1 f hf
  ·cases List.mem_singleton.mp hf
   have:=I.k.len
   exact⟨by show M.length+1≠p;omega,by show M.length≠p;omega,by show M.length+1≠M.length;omega,fun h=>by have:=lc _ h;simp only at this;omega,fun h=>by have:=lc _ h;simp only at this;omega,by show _≤M.length+1;omega,this⟩
 ·rw[List.pairwise_append]
  refine⟨I.d2,List.pairwise_singleton _ _,fun f hf g hg=>?_⟩
  cases List.mem_singleton.mp hg
  have h3:=(I.ok f hf).lt
  exact⟨by show f.q≠M.length+1;omega,by show f.q≠M.length;omega,by show f.n≠M.length+1;omega,by show f.n≠M.length;omega⟩
 ·have:=lc c h
  rw[List.length_set,List.length_append,List.length_append]
  omega
theorem NI.last(I:NI M0 p (init++[f]) C M):CFok C M f∧(∀g∈init,CFok C M g∧g.q≠f.q∧g.q≠f.n∧g.n≠f.q∧g.n≠f.n)∧f.q≠p∧f.n≠p∧f.q≠f.n∧¬C f.q∧¬C f.n∧M0.length≤f.q∧M0.length≤f.n:=by
 have h2:=I.d2
 rw[List.pairwise_append] at h2
 exact⟨I.ok f (by simp),fun g hg=>⟨I.ok g (by simp[hg]),h2.2.2 g hg f (by simp)⟩,I.d1 f (by simp)⟩
theorem NI.grow{C':Nat→Prop}{M':Z2}{ds:List D}{t:T}{d:D}(I:NI M0 p (init++[f]) C M)(e:Z4 M f.n=some ds)(rt:RTs C M f.t ds)(hC:∀c,C c→C' c)
  (hN:∀c,C' c→M0.length≤c∧c<M'.length) (nC:¬C' p∧∀g∈init++[f],¬C' g.q∧¬C' g.n) (k:∀b,b<M.length→M'[b]?=M[b]?) (kl:M.length≤M'.length) (h:RT C' M' t d):NI M0 p (init++[{f with t:=f.t++[t]}]) C' (M'.set f.n (.lst (ds++[d]))):=by
 obtain⟨hf,hi,a1,a2,a3,a4,a5,a6,a7⟩:=I.last
 have lt:=hf.lt
 have hp:=I.plt
 have nf:¬C' f.n:=(nC.2 f (by simp)).2
 have at':∀b,b≠f.n→b<M.length→(M'.set f.n (.lst (ds++[d])))[b]?=M[b]?:=fun b h1 h2=>by rw[Xe (Ne.symm h1),k b h2]
 have atC:∀c,C c→(M'.set f.n (.lst (ds++[d])))[c]?=M[c]?:=fun c h=>at' c (fun z=>nf (z ▸ hC c h)) (I.cl c h).2
 refine⟨⟨fun b n l=>(at' b (by omega) (Nat.lt_of_lt_of_le l I.k.len)).trans (I.k.at' b n l),?_⟩,?_,?_,⟨nC.1,I.d0.2⟩,?_,?_,fun c h=>⟨(hN c h).1,by rw[List.length_set];exact(hN c h).2⟩⟩
 ·rw[List.length_set]
  exact Nat.le_trans I.k.len kl
 ·rw[X8 (at' p (Ne.symm a2) hp),I.o]
  simp
 ·intro g hg
  rcases List.mem_append.mp hg with hg | hg
  ·obtain⟨g1,g2,g3,g4,g5⟩:=hi g hg
   have:=g1.lt
   exact g1.keep hC atC (at' _ g3 this.1) (at' _ g5 this.2)
  ·cases List.mem_singleton.mp hg
   refine⟨?_,⟨ds++[d],Z9 (by omega),?_⟩,fun c ts e=>?_⟩
   ·show Z4 _ f.q=some [f.hd,f.yd,.ref f.n]
    rw[X8 (at' _ a3 lt.1)]
    exact hf.q
   ·exact(rt.keep hC atC).app (.one (h.keep (fun _ h=>h) fun c hc=>Xe (a:=f.n) fun z=>nf (by rw[z];exact hc)))
   ·obtain⟨g1,es,g2,g3⟩:=hf.y c ts e
    exact⟨hC c g1,es,by rw[X8 (atC c g1)];exact g2,g3.keep hC atC⟩
 ·intro g hg
  rcases List.mem_append.mp hg with hg | hg
  ·obtain⟨b1,b2,b3,_,_,b6,b7⟩:=I.d1 g (by simp[hg])
   obtain⟨c1,c2⟩:=nC.2 g (by simp[hg])
   exact⟨b1,b2,b3,c1,c2,b6,b7⟩
  ·cases List.mem_singleton.mp hg
   exact⟨a1,a2,a3,(nC.2 f (by simp)).1,nf,a6,a7⟩
 ·have h2:=I.d2
  rw[List.pairwise_append] at h2 ⊢
  refine⟨h2.1,List.pairwise_singleton _ _,fun g hg g' hg'=>?_⟩
  cases List.mem_singleton.mp hg'
  exact h2.2.2 g hg f (by simp)
theorem NI.els(I:NI M0 p (init++[f]) C M):NI M0 p (init++[⟨f.q,M.length,f.h,some (f.n,f.t),[]⟩]) (fun c=>C c∨c=f.n) (List.set (List.set M f.q (.lst [f.hd,.ref f.n,.ref f.n])++[Cell.lst []]) f.q (.lst [f.hd,.ref f.n,.ref M.length])):=by
 obtain⟨hf,hi,a1,a2,a3,a4,a5,a6,a7⟩:=I.last
 have lt:=hf.lt
 have hp:=I.plt
 have at':∀b,b≠f.q→b<M.length→(List.set (List.set M f.q (.lst [f.hd,.ref f.n,.ref f.n])++[Cell.lst []]) f.q (.lst [f.hd,.ref f.n,.ref M.length]))[b]?=M[b]?:=fun b h1 h2=>by
  rw[Xe (Ne.symm h1),Q7 (by rw[List.length_set];exact h2),Xe (Ne.symm h1)]
 have atC:∀c,C c→(List.set (List.set M f.q (.lst [f.hd,.ref f.n,.ref f.n])++[Cell.lst []]) f.q (.lst [f.hd,.ref f.n,.ref M.length]))[c]?=M[c]?:=fun c h=>at' c (fun z=>a4 (z ▸ h)) (I.cl c h).2
 have hM:(List.set M f.q (.lst [f.hd,.ref f.n,.ref f.n])).length=M.length:=List.length_set ..
 have lcl:∀c,C c→c<M.length:=fun c h=>(I.cl c h).2
 refine⟨⟨fun b n l=>(at' b (by omega) (Nat.lt_of_lt_of_le l I.k.len)).trans (I.k.at' b n l),?_⟩,?_,?_,⟨fun h=>h.elim I.d0.1 fun z=>a2 z.symm,I.d0.2⟩,?_,?_,fun c h=>?_⟩
 ·rw[List.length_set,List.length_append,hM]
  have:=I.k.len
  omega
 ·rw[X8 (at' p (Ne.symm a1) hp),I.o]
  simp
 ·intro g hg
  rcases List.mem_append.mp hg with hg | hg
  ·obtain⟨g1,g2,g3,g4,g5⟩:=hi g hg
   have:=g1.lt
   exact g1.keep (fun _ h=> .inl h) atC (at' _ g2 this.1) (at' _ g4 this.2)
  ·cases List.mem_singleton.mp hg
   refine⟨Z9 (by rw[List.length_append,hM];omega),⟨[],?_,rfl⟩,fun c ts e=>?_⟩
   ·show Z4 _ M.length=some []
    rw[Zb (by omega),←hM]
    exact Z6 _ _ _
   ·cases e
    obtain⟨ds,h2,h3⟩:=hf.n
    exact⟨.inr rfl,ds,by rw[X8 (at' _ (Ne.symm a3) lt.2)];exact h2,h3.keep (fun _ h=> .inl h) atC⟩
 ·intro g hg
  rcases List.mem_append.mp hg with hg | hg
  ·obtain⟨b1,b2,b3,b4,b5,b6,b7⟩:=I.d1 g (by simp[hg])
   obtain⟨g1,g2,g3,g4,g5⟩:=hi g hg
   exact⟨b1,b2,b3,fun h=>h.elim b4 g3,fun h=>h.elim b5 g5,b6,b7⟩
  ·cases List.mem_singleton.mp hg
   have:=I.k.len
   exact⟨a1,by show M.length≠p;omega,by show f.q≠M.length;omega,fun h=>h.elim a4 a3,fun h=>h.elim (fun z=>by have:=lcl _ z;simp only at this;omega) (fun z=>by simp only at z;omega),a6,this⟩
 ·have h2:=I.d2
  rw[List.pairwise_append] at h2 ⊢
  refine⟨h2.1,List.pairwise_singleton _ _,fun g hg g' hg'=>?_⟩
  cases List.mem_singleton.mp hg'
  obtain⟨g1,g2,g3,g4,g5⟩:=hi g hg
  have:=g1.lt
  exact⟨g2,by show g.q≠M.length;omega,g4,by show g.n≠M.length;omega⟩
 ·rw[List.length_set,List.length_append,hM]
  rcases h with h | h
  ·have:=I.cl c h
   exact⟨this.1,by omega⟩
  ·rw[h]
   exact⟨a7,by omega⟩
theorem NI.pop(I:NI M0 p (init++[f]) C M):NI M0 p init C (M.set p (.lst (init.map fun f=> .ref f.q))):=by
 obtain⟨hf,hi,a1,a2,a3,a4,a5,a6,a7⟩:=I.last
 have hp:=I.plt
 have atC:∀c,C c→(M.set p (.lst (init.map fun f=> .ref f.q)))[c]?=M[c]?:=fun c h=>Xe fun z=>I.d0.1 (z ▸ h)
 have h2:=I.d2
 rw[List.pairwise_append] at h2
 refine⟨I.k.set (.inr I.d0.2),Z9 hp,fun g hg=>?_,I.d0,fun g hg=>I.d1 g (by simp[hg]),h2.1,fun c h=>by rw[List.length_set];exact I.cl c h⟩
 obtain⟨b1,b2,_⟩:=I.d1 g (by simp[hg])
 exact(I.ok g (by simp[hg])).keep (fun _ h=>h) atC (Xe (Ne.symm b1)) (Xe (Ne.symm b2))
def Cn(C:Nat→Prop)(f:CF)(M N:Z2)(c:Nat):Prop:=C c∨c=f.n∨(M.length≤c∧c<M.length+N.length)
theorem NI.done(I:NI M0 p ((init++[g])++[f]) C M){N:Z2}{ds:List D}{t:T}{d:D}(e:Z4 M g.n=some ds)(rt:RTs C M g.t ds)
  (h:RT (Cn C f M N) (M.set p (.lst ((init++[g]).map fun f=> .ref f.q))++N) t d):NI M0 p (init++[{g with t:=g.t++[t]}]) (Cn C f M N) (List.set (M.set p (.lst ((init++[g]).map fun f=> .ref f.q))++N) g.n (.lst (ds++[d]))):=by
 obtain⟨hf,hi,a1,a2,a3,a4,a5,a6,a7⟩:=I.last
 have lt:=hf.lt
 have hp:=I.plt
 have hm:=I.k.len
 have I1:=I.pop
 have hM:(M.set p (.lst ((init++[g]).map fun f=> .ref f.q))).length=M.length:=List.length_set ..
 obtain⟨b1,b2,_⟩:=I.d1 g (by simp)
 have hg:=(hi g (by simp)).1.lt
 have atC:∀c,C c→(M.set p (.lst ((init++[g]).map fun f=> .ref f.q)))[c]?=M[c]?:=fun c h=>Xe fun z=>I.d0.1 (z ▸ h)
 refine I1.grow (M':=M.set p (.lst ((init++[g]).map fun f=> .ref f.q))++N) (ds:=ds) (by rw[Zb (Ne.symm b2)];exact e) (rt.keep (fun _ h=>h) atC) (fun c h=> .inl h) (fun c h=>?_) ⟨fun h=>?_,fun g' hg'=>⟨fun h=>?_,fun h=>?_⟩⟩ (fun b hb=>Q7 hb) (by rw[List.length_append];omega) h
 ·rw[List.length_append,hM]
  rcases h with h | h | h
  ·have:=I.cl c h
   exact⟨this.1,by omega⟩
  ·rw[h]
   exact⟨a7,by omega⟩
  ·exact⟨by omega,by omega⟩
 ·rcases h with h | h | h
  ·exact I.d0.1 h
  ·exact a2 h.symm
  ·omega
 ·have hx:=hi g' hg'
  obtain⟨_,_,_,c4,c5,_⟩:=I.d1 g' (List.mem_append_left _ hg')
  have:=hx.1.lt
  rcases h with h | h | h
  ·exact c4 h
  ·exact hx.2.2.1 h
  ·omega
 ·have hx:=hi g' hg'
  obtain⟨_,_,_,c4,c5,_⟩:=I.d1 g' (List.mem_append_left _ hg')
  have:=hx.1.lt
  rcases h with h | h | h
  ·exact c5 h
  ·exact hx.2.2.2.2 h
  ·omega
theorem NI.doneK(I:NI M0 p (init++[f]) C M){N:Z2}{x:Cell}{ds:List D}{us:List T}(rt:RTs C M us ds):RTs (Cn C f M N) (M.set p x++N) us ds:=
 rt.keep (fun c h=> .inl h) fun c h=>by rw[Q7 (by rw[List.length_set];exact(I.cl c h).2)];exact Xe (a:=p) fun z=>I.d0.1 (by rw[z];exact h)
end
structure Fm(C:Nat→Prop)(M:Z2)(m:Nat)(ts:List T)(r:Nat):Prop where
 e:∃ds,Z4 M r=some ds∧RTs C M ts ds
 c:∀c,C c→m≤c∧c<M.length
 n:¬C r∧m≤r
def Yu:DSp:=fun ds M Q _=>∃(a:Nat) (ls:List Ln),ds=[.ref a]∧Zf M a=some (ls.map Ln.d)∧ls.length≤200∧run [] ls=some []∧∀C M' r,Kp M M'→Fm C M' M.length (nest ls) r→Q (.ref r) M'
section
variable{K:PySem.W.Frag}{Γ:List DSp}{G:List D}
theorem Z25{ls:List Ln}{st x:List Tp}(h:run st ls=some x)(i:Nat):∃t,run st (ls.take i)=some t:=by
 rw[←List.take_append_drop i ls,O8] at h
 cases e:run st (ls.take i) with
 | none=>rw[e] at h;cases h
 | some t=>exact⟨t,rfl⟩
theorem Zq{α:Type}{ls:List α}{i:Nat}{l:α}(h:ls[i]?=some l):ls.take (i+1)=ls.take i++[l]:=by
 obtain⟨hi,rfl⟩:=List.getElem?_eq_some_iff.mp h
 rw[List.take_succ,List.getElem?_eq_getElem hi]
 rfl
structure NA(M:Z2)(a:Nat)(ls:List Ln)(i:Nat)(cfs:List CF)(C:Nat→Prop)(M':Z2):Prop where
 I:NI M (M.length+2) cfs C M'
 A:(cfs.map CF.abs).reverse=(ls.take i).foldl nst [fr0]
 t:∀f∈cfs,f.t.length≤i
 l:cfs.length≤i+1
noncomputable abbrev Ne6(a p:Nat)(d2 d3 d4 d5:Option D):DEnv:=[some (.ref a),some (.ref p),d2,d3,d4,d5]
theorem Ln.nst_beg{l:Ln}(h:l.beg=true)(fs:List Fr):nst fs l=⟨some l,none,[]⟩::fs:=by
 cases l<;>first | rfl | cases h
theorem Yo(init:List CF)(f:CF):((init++[f]).map CF.abs).reverse=f.abs::(init.map CF.abs).reverse:=by simp
theorem Bv(g:Γ[13]?=some Zl):∀ds M Q Z,Yu ds M Q Z→tss ⟨K,Γ,G⟩ noX b_Lnested {nx:=fun _ M=>Q .non M,rt:=Q} (start0 T7 ds) M:=by
 rintro ds M Q Z ⟨a,ls,rfl,hr,hl,hrun,q⟩
 delta b_Lnested T7
 walk_at "ev"
 simp only[List.append_assoc,List.cons_append,List.nil_append,List.length_append,List.length_cons,List.length_nil]
 refine⟨Z1 (by decide),Z1 (by decide),Z1 (by decide),Z1 (by decide),_,Z7 hr,?_⟩
 refine Sd (fun i σ M'=>∃cfs C d2 d3 d4 d5,σ=Ne6 a (M.length+2) d2 d3 d4 d5∧NA M a ls i cfs C M') ⟨[⟨M.length+1,M.length,none,none,[]⟩],fun _=>False,none,none,none,none,rfl,?_⟩ ?_ ?_ ?_
 ·refine⟨⟨Ks.new _ _,?_,?_,⟨fun z=>z,by omega⟩,?_,List.pairwise_singleton _ _,fun c h=>h.elim⟩,rfl,?_,Nat.le_refl _⟩
  ·rw[Xn]
   rfl
  ·intro f hf
   cases List.mem_singleton.mp hf
   refine⟨?_,⟨[],Z6 _ _ _,rfl⟩,fun c ts e=>by cases e⟩
   show Z4 _ (M.length+1)=_
   rw[Xn]
   rfl
  ·intro f hf
   cases List.mem_singleton.mp hf
   exact⟨by show M.length+1≠M.length+2;omega,by show M.length≠M.length+2;omega,by show M.length+1≠M.length;omega,fun z=>z,fun z=>z,by show _≤M.length+1;omega,Nat.le_refl _⟩
  ·intro f hf
   cases List.mem_singleton.mp hf
   exact Nat.le_refl _
 ·rintro i σ M' _ ⟨cfs,C,d2,d3,d4,d5,rfl,N⟩
  exact N.I.k.pL hr
 ·rintro i d σ M' P hd ⟨cfs,C,d2,d3,d4,d5,rfl,N⟩ hP
  obtain⟨l,hl1,rfl⟩:∃l,ls[i]?=some l∧d=l.d:=by
   rw[List.getElem?_map] at hd
   cases e:ls[i]? with
   | none=>rw[e] at hd;cases hd
   | some l=>rw[e] at hd;cases hd;exact⟨l,rfl,rfl⟩
  have hi:i<200:=by have:=(List.getElem?_eq_some_iff.mp hl1).1;omega
  obtain⟨us,e1⟩:=Z25 hrun i
  obtain⟨us',e2⟩:=Z25 hrun (i+1)
  rw[Zq hl1,O8,e1] at e2
  replace e2:stp us l=some us':=by
   have:(stp us l).bind (fun t=>run t [])=some us':=e2
   cases h:stp us l with
   | none=>rw[h] at this;cases this
   | some t=>rw[h] at this;exact this
  have F:=Fss.run (fs:=[fr0]) (ts:=[]) ⟨[],rfl⟩ e1
  rw[←N.A] at F
  have A':∀{cfs':List CF},(cfs'.map CF.abs).reverse=nst (cfs.map CF.abs).reverse l→(cfs'.map CF.abs).reverse=(ls.take (i+1)).foldl nst [fr0]:=by
   intro cfs' h
   rw[h,N.A,Zq hl1,List.foldl_append]
   rfl
  rw[tg_one]
  delta Q2
  walk_at "ev"
  simp only[g]
  refine⟨l,rfl,?_⟩
  walk_at "ev"
  have hz:=N.l
  cases hb:l.beg with
  | true=>
   walk_at "ev"
   refine⟨Za (Z0 N.I.o),Z1 (by decide),Z1 (by decide),_,Z8 (Z8 N.I.o),Zd (by rw[List.length_map];omega),hP _ _ ⟨cfs++[⟨M'.length+1,M'.length,some l,none,[]⟩],C,_,_,_,_,rfl,?_,?_,?_,?_⟩⟩
   ·have:=N.I.push l
    rw[show(M'++[Cell.lst []]).length=M'.length+1 by simp]
    exact this
   ·refine A' ?_
    rw[Yo,Ln.nst_beg hb]
    rfl
   ·intro f hf
    rcases List.mem_append.mp hf with hf | hf
    ·have:=N.t f hf
     omega
    ·cases List.mem_singleton.mp hf
     exact Nat.zero_le _
   ·rw[List.length_append,List.length_singleton]
    omega
  | false=>
   obtain⟨f0,fr,eA,_⟩:=F.top
   rcases List.eq_nil_or_concat cfs with rfl | ⟨init,f,rfl⟩
   ·cases eA
   rw[List.concat_eq_append] at N F A' eA hz
   obtain⟨hf,hi',a1,a2,a3,a4,a5,a6,a7⟩:=N.I.last
   obtain⟨ds,hn,rt⟩:=hf.n
   have hz2:init.length≤i:=by rw[List.length_append,List.length_singleton] at hz;omega
   have ft:=N.t f (by simp)
   have dl:=rt.len
   have lst:atI ((init++[f]).map fun f=>D.ref f.q) (-1)=some (.ref f.q):=by rw[List.map_append];exact Zr5 _ _
   have plain:l.pl=true→l.beg=false→nst (((init++[f]).map CF.abs).reverse) l=⟨f.h,f.y.map (·.2),f.t++[.leaf l]⟩::(init.map CF.abs).reverse→P (Ne6 a (M.length+2) (some l.d) d3 d4 d5) (M'.set f.n (.lst (ds++[l.d]))):=by
    intro h1 h2 h3
    refine hP _ _ ⟨init++[{f with t:=f.t++[.leaf l]}],C,_,_,_,_,rfl,N.I.grow hn rt (fun _ h=>h) N.I.cl ⟨N.I.d0.1,fun g hg=>?_⟩ (fun _ _=>rfl) (Nat.le_refl _) (show RT C M' (.leaf l) l.d from⟨rfl,h1,h2⟩),A' ?_,?_,?_⟩
    ·obtain⟨_,_,_,b4,b5,_⟩:=N.I.d1 g hg
     exact⟨b4,b5⟩
    ·rw[Yo,h3]
     rfl
    ·intro g hg
     rcases List.mem_append.mp hg with hg | hg
     ·have:=N.t g (by simp[hg])
      omega
     ·cases List.mem_singleton.mp hg
      show(f.t++[_]).length≤_
      rw[List.length_append,List.length_singleton]
      omega
    ·rw[List.length_append,List.length_singleton]
     omega
   have put:∀P':DK,(∀Y,P' Y (M'.set f.n (.lst (ds++[l.d]))))→ixD M' (.ref (M.length+2)) (.int (-1)) fun d=>ixD M' d (.int 2) fun d'=>mtK .append d' M'∧mtD .append d' [l.d] M' P':=by
    intro P' h
    refine Qf (Z0 N.I.o) lst (ix_l (k:=2) (Z0 hf.q) rfl ⟨Za (Z0 hn),?_⟩)
    walk_at "ev"
    exact⟨_,hn,Zd (by omega),h _⟩
   cases l with
   | cond _ _ _=>cases hb
   | rnd _=>cases hb
   | prt _=>cases hb
   | sum x o1 s o2=>
    simp only[Ln.d] at *
    walk_at "ev"
    exact put _ fun _=>plain rfl rfl (by rw[Yo];rfl)
   | lve n=>
    simp only[Ln.d] at *
    walk_at "ev"
    exact put _ fun _=>plain rfl rfl (by rw[Yo];rfl)
   | agn n=>
    simp only[Ln.d] at *
    walk_at "ev"
    exact put _ fun _=>plain rfl rfl (by rw[Yo];rfl)
   | fin=>
    simp only[Ln.d] at *
    walk_at "ev"
    exact put _ fun _=>plain rfl rfl (by rw[Yo];rfl)
   | els=>
    clear plain put
    simp only[Ln.d]
    walk_at "ev"
    refine Qf (Z0 N.I.o) lst (ix_l (k:=2) (Z0 hf.q) rfl (Qf (Z0 N.I.o) lst (.inl ⟨_,1,1,rfl,hf.q,rfl,Z1 (by decide),?_⟩)))
    refine Qf (Z7 (by rw[Vg a1];exact Z0 N.I.o)) lst (.inl ⟨_,2,2,rfl,Z8 (Z9 hf.lt.1),rfl,?_⟩)
    rw[List.length_set]
    refine hP _ _ ⟨init++[⟨f.q,M'.length,f.h,some (f.n,f.t),[]⟩],_,_,_,_,_,rfl,N.I.els,A' (by rw[Yo,Yo];rfl),?_,?_⟩
    ·intro g hg
     rcases List.mem_append.mp hg with hg | hg
     ·have:=N.t g (by simp[hg])
      omega
     ·cases List.mem_singleton.mp hg
      exact Nat.zero_le _
    ·rw[List.length_append,List.length_singleton]
     omega
   | don=>
    clear plain put
    obtain⟨t,rfl⟩:=O3 e2
    rw[Yo] at F
    obtain⟨f1,fr1,ef,ht,F2⟩:=F
    cases ef
    obtain⟨g0,gr,eg,_⟩:=F2.top
    rcases List.eq_nil_or_concat init with rfl | ⟨init',gg,rfl⟩
    ·cases eg
    rw[List.concat_eq_append] at *
    have xl:((init'++[gg]++[f]).map fun f=>D.ref f.q)[((init'++[gg]++[f]).map fun f=>D.ref f.q).length - 1]?=some (.ref f.q):=by rw[List.map_append,List.length_append];simp
    have xd:((init'++[gg]++[f]).map fun f=>D.ref f.q).dropLast=(init'++[gg]).map fun f=>D.ref f.q:=by rw[List.map_append];simp
    have hg:=hi' gg (by simp)
    obtain⟨dg,hgn,rg⟩:=hg.1.n
    obtain⟨b1,b2,_⟩:=N.I.d1 gg (by simp)
    have gt:=N.t gg (by simp)
    have gl:=rg.len
    simp only[Ln.d]
    walk_at "ev"
    refine⟨Za (Z0 N.I.o),_,_,N.I.o,xl,?_⟩
    rw[xd]
    walk_at "ev"
    refine⟨[f.hd,f.yd,.ref f.n],by rw[Vg (Ne.symm a1)];exact Z0 hf.q,rfl,?_⟩
    simp only[List.zip_cons_cons,List.zip_nil_right,List.foldl_cons,List.foldl_nil,List.set_cons_succ,List.set_cons_zero]
    walk_at "ev"
    have glst:atI ((init'++[gg]).map fun f=>D.ref f.q) (-1)=some (.ref gg.q):=by rw[List.map_append];exact Zr5 _ _
    have hpl:=N.I.plt
    have o1:Zf (M'.set (M.length+2) (.lst ((init'++[gg]).map fun f=> .ref f.q))) (M.length+2)=some ((init'++[gg]).map fun f=> .ref f.q):=Z0 (Z9 hpl)
    have o2:Zf (M'.set (M.length+2) (.lst ((init'++[gg]).map fun f=> .ref f.q))) gg.q=some [gg.hd,gg.yd,.ref gg.n]:=by rw[Vg (Ne.symm b1)];exact Z0 hg.1.q
    have o3:Z4 (M'.set (M.length+2) (.lst ((init'++[gg]).map fun f=> .ref f.q))) gg.n=some dg:=by rw[Zb (Ne.symm b2)];exact hgn
    have hn':∀N':Z2,Z4 (M'.set (M.length+2) (.lst ((init'++[gg]).map fun f=> .ref f.q))++N') f.n=some ds:=fun N'=>Z8 (by rw[Zb (Ne.symm a2)];exact hn)
    have hM:(M'.set (M.length+2) (.lst ((init'++[gg]).map fun f=> .ref f.q))).length=M'.length:=List.length_set ..
    have fin:∀(N':Z2) (d:D) (d3 d4 d5:Option D),RT (Cn C f M' N') (M'.set (M.length+2) (.lst ((init'++[gg]).map fun f=> .ref f.q))++N') f.abs.mk' d→P (Ne6 a (M.length+2) (some (Ln.don).d) d3 d4 d5) (List.set (M'.set (M.length+2) (.lst ((init'++[gg]).map fun f=> .ref f.q))++N') gg.n (.lst (dg++[d]))):=by
     intro N' d d3 d4 d5 h
     refine hP _ _ ⟨init'++[{gg with t:=gg.t++[f.abs.mk']}],_,_,_,_,_,rfl,N.I.done hgn rg h,A' (by rw[Yo,Yo,Yo];rfl),?_,?_⟩
     ·intro g hg
      rcases List.mem_append.mp hg with hg | hg
      ·have:=N.t g (by simp[hg])
       omega
      ·cases List.mem_singleton.mp hg
       show(gg.t++[_]).length≤_
       rw[List.length_append,List.length_singleton]
       omega
     ·simp only[List.length_append,List.length_singleton] at hz ⊢
      omega
    have put:∀(N':Z2) (d:D) (d3 d4 d5:Option D),RT (Cn C f M' N') (M'.set (M.length+2) (.lst ((init'++[gg]).map fun f=> .ref f.q))++N') f.abs.mk' d→mtD .append (.ref gg.n) [d] (M'.set (M.length+2) (.lst ((init'++[gg]).map fun f=> .ref f.q))++N') fun _ M1=>P (Ne6 a (M.length+2) (some (Ln.don).d) d3 d4 d5) M1:=by
     intro N' d d3 d4 d5 h
     exact⟨_,Z8 o3,Zd (by omega),fin N' d d3 d4 d5 h⟩
    obtain⟨fq,fn,fh,fy,ft'⟩:=f
    cases t with
    | crd=>
     obtain⟨hy,n,hh⟩:=ht
     cases hh
     simp only[CF.hd,CF.yd,Ln.d]
     walk_at "ev"
     refine Qf o1 glst (ix_l (k:=2) o2 rfl ⟨Za (Z0 o3),Z1 (by decide),by simp,Z1 (by decide),?_⟩)
     have:=put [] (.tup [.str "round",.int n,.ref fn]) (some (.tup [.str "round",.int n])) (some (match fy with | none=> .non | some (c,_)=> .ref c)) (some (.ref fn)) (show RT _ _ (.home true n ft') _ from⟨fn,ds,rfl,.inr (.inl rfl),hn' [],N.I.doneK rt⟩)
     rw[List.append_nil] at this
     exact this
    | cpt=>
     obtain⟨hy,n,hh⟩:=ht
     cases hh
     simp only[CF.hd,CF.yd,Ln.d]
     walk_at "ev"
     refine Qf o1 glst (ix_l (k:=2) o2 rfl ⟨Za (Z0 o3),Z1 (by decide),by simp,Z1 (by decide),?_⟩)
     have:=put [] (.tup [.str "part",.int n,.ref fn]) (some (.tup [.str "part",.int n])) (some (match fy with | none=> .non | some (c,_)=> .ref c)) (some (.ref fn)) (show RT _ _ (.home false n ft') _ from⟨fn,ds,rfl,.inr (.inl rfl),hn' [],N.I.doneK rt⟩)
     rw[List.append_nil] at this
     exact this
    | cif=>
     obtain⟨hy,x,s,y,hh⟩:=ht
     cases hh
     cases fy with
     | some z=>cases hy
     | none=>
      simp only[CF.hd,CF.yd,Ln.d]
      walk_at "ev"
      refine Qf o1 glst (ix_l (k:=2) o2 rfl ⟨Za (Z0 o3),?_⟩)
      rw[show cutD [D.str "if",x.d,D.str s,y.d] (some 1) none=[x.d,D.str s,y.d] from rfl]
      refine⟨Z1 (by decide),by decide,by simp,Z1 (Nat.le_of_ble_eq_true rfl),Z1 (by decide),Z1 (by decide),by simp,Z1 (Nat.le_of_ble_eq_true rfl),?_⟩
      exact put [.lst []] (.tup [.str "choice",x.d,.str s,y.d,.ref fn,.ref (M'.set (M.length+2) (.lst ((init'++[gg]).map fun f=> .ref f.q))).length]) _ _ _ (show RT _ _ (.cho x s y ft' []) _ from⟨fn,_,ds,[],rfl,.inr (.inl rfl),.inr (.inr (by rw[hM];exact⟨Nat.le_refl _,Nat.lt_succ_self _⟩)),hn' _,N.I.doneK rt,Z6 _ _ _,rfl⟩)
    | cel=>
     obtain⟨hy,x,s,y,hh⟩:=ht
     cases hh
     cases fy with
     | none=>cases hy
     | some z=>
      obtain⟨c,us⟩:=z
      simp only[CF.hd,CF.yd,Ln.d]
      walk_at "ev"
      refine Qf o1 glst (ix_l (k:=2) o2 rfl ⟨Za (Z0 o3),?_⟩)
      rw[show cutD [D.str "if",x.d,D.str s,y.d] (some 1) none=[x.d,D.str s,y.d] from rfl]
      refine⟨Z1 (by decide),by decide,by simp,Z1 (Nat.le_of_ble_eq_true rfl),Z1 (by decide),by simp,Z1 (Nat.le_of_ble_eq_true rfl),?_⟩
      obtain⟨y1,dy,y2,y3⟩:=hf.y c us rfl
      have:=put [] (.tup [.str "choice",x.d,.str s,y.d,.ref c,.ref fn]) (some (.tup [.str "if",x.d,.str s,y.d])) (some (.ref c)) (some (.ref fn)) (show RT _ _ (.cho x s y us ft') _ from⟨c,fn,dy,ds,rfl,.inl y1,.inr (.inl rfl),Z8 (by rw[Zb (fun z=>N.I.d0.1 (by rw[z];exact y1))];exact y2),N.I.doneK y3,hn' _,N.I.doneK rt⟩)
      rw[List.append_nil] at this
      exact this
 ·rintro σ M' ⟨cfs,C,d2,d3,d4,d5,rfl,N⟩
  have A:=N.A
  rw[List.length_map,List.take_length,Gk hrun] at A
  delta Rz
  walk_at "ev"
  rcases List.eq_nil_or_concat cfs with rfl | ⟨init,f,rfl⟩
  ·cases A
  rw[List.concat_eq_append] at N A
  rw[Yo] at A
  obtain⟨q1,q2⟩:=List.cons.inj A
  have:init=[]:=by cases init<;>simp_all
  subst this
  rw[List.nil_append] at N
  obtain⟨hf,hi',a1,a2,a3,a4,a5,a6,a7⟩:=(show NI M (M.length+2) ([]++[f]) C M' from N.I).last
  refine ix_l (k:=0) (Z0 N.I.o) rfl (ix_l (k:=2) (Z0 hf.q) rfl (q C M' f.n N.I.k ⟨?_,N.I.cl,a5,a7⟩))
  have e:f.t=nest ls:=congrArg Fr.n q1
  rw[←e]
  exact hf.n
end
noncomputable def Ln.g:Ln→D
 | .cond a s b=> .tup [.str "choice",a.d,.str s,b.d]
 | .els=> .gtup [.str "else"]
 | .don=> .gtup [.str "done"]
 | l=>l.d
noncomputable def hdL:T→Ln
 | .leaf l=>l
 | .home r n _=>if r then .rnd n else .prt n
 | .cho a s b _ _=> .cond a s b
noncomputable def sub':T→List T
 | .leaf _=>[]
 | .home _ _ b=>b++[.leaf .don]
 | .cho _ _ _ y []=>y++[.leaf .don]
 | .cho _ _ _ y (t::ts)=>(y++[.leaf .els])++(t::ts)++[.leaf .don]
theorem Z87(t:T):fl t=hdL t::fls (sub' t):=by
 cases t with
 | leaf l=>rfl
 | home r n b=>rw[T5];show _=_::fls (b++[.leaf .don]);rw[Xa];rfl
 | cho a s b y n=>
  cases n with
  | nil=>rw[Vy];show _=_::fls (y++[.leaf .don]);rw[Xa];rfl
  | cons t ts=>
   rw[S8]
   show _=_::fls ((y++[.leaf .els])++(t::ts)++[.leaf .don])
   rw[Xa,Xa,Xa]
   simp[Yt,Wb,T6,hdL]
theorem Sc(ts:List T):ts.length≤(fls ts).length:=by
 induction ts with
 | nil=>exact Nat.zero_le _
 | cons t ts ih=>rw[Yt,Z87,List.length_append,List.length_cons,List.length_cons];omega
def RG(C:Nat→Prop)(M:Z2)(t:T)(d:D):Prop:=RT C M t d∨(t= .leaf .don∧d= .gtup [.str "done"])∨(t= .leaf .els∧d= .gtup [.str "else"])
def RGs(C:Nat→Prop)(M:Z2):List T→List D→Prop
 | [],ds=>ds=[]
 | t::ts,ds=>∃d r,ds=d::r∧RG C M t d∧RGs C M ts r
theorem RG.keep{C:Nat→Prop}{M M':Z2}(k:∀c,C c→M'[c]?=M[c]?){t:T}{d:D}(h:RG C M t d):RG C M' t d:=h.imp (fun z=>z.keep (fun _ h=>h) k) fun z=>z
theorem RGs.keep{C:Nat→Prop}{M M':Z2}(k:∀c,C c→M'[c]?=M[c]?):∀{ts:List T} {ds:List D},RGs C M ts ds→RGs C M' ts ds
 | [],ds,h=>h
 | t::ts,ds,⟨d,r,e,h1,h2⟩=>⟨d,r,e,h1.keep k,RGs.keep k h2⟩
theorem RTs.rg{C:Nat→Prop}{M:Z2}:∀{ts:List T} {ds:List D},RTs C M ts ds→RGs C M ts ds
 | [],ds,h=>h
 | t::ts,ds,⟨d,r,e,h1,h2⟩=>⟨d,r,e,.inl h1,RTs.rg h2⟩
theorem RGs.len{C:Nat→Prop}{M:Z2}:∀{ts:List T} {ds:List D},RGs C M ts ds→ds.length=ts.length
 | [],ds,h=>by cases h;rfl
 | t::ts,ds,⟨d,r,e,h1,h2⟩=>by rw[e,List.length_cons,List.length_cons,RGs.len h2]
theorem RGs.app{C:Nat→Prop}{M:Z2}:∀{ts us:List T} {ds es:List D},RGs C M ts ds→RGs C M us es→RGs C M (ts++us) (ds++es)
 | [],us,ds,es,h,g=>by cases h;exact g
 | t::ts,us,ds,es,⟨d,r,e,h1,h2⟩,g=>by rw[e];exact⟨d,r++es,rfl,h1,RGs.app h2 g⟩
theorem G9{C:Nat→Prop}{M:Z2}:RGs C M [.leaf .don] [.gtup [.str "done"]]:=⟨_,_,rfl,.inr (.inl ⟨rfl,rfl⟩),rfl⟩
theorem Zq6{C:Nat→Prop}{M:Z2}:RGs C M [.leaf .els] [.gtup [.str "else"]]:=⟨_,_,rfl,.inr (.inr ⟨rfl,rfl⟩),rfl⟩
def Zh:DSp:=fun ds M Q _=>∃C t d,ds=[d]∧RG C M t d∧Q (hdL t).g M
def Zx:DSp:=fun ds M Q _=>∃C t d,ds=[d]∧RG C M t d∧(∀c,C c→c<M.length)∧(fl t).length≤1000∧∀M' r ds',Kp M M'→RGs C M' (sub' t) ds'→Z4 M' r=some ds'→M.length≤r→Q (.ref r) M'
def Ze:DSp:=fun ds M Q _=>∃C ts r ds',ds=[.ref r]∧Z4 M r=some ds'∧RTs C M ts ds'∧(∀c,C c→c<M.length)∧(fls ts).length≤1000∧∀M' r',Kp M M'→Z4 M' r'=some ((fls ts).map Ln.g)→M.length≤r'→Q (.ref r') M'
theorem Ks.cl{M M':Z2}{C:Nat→Prop}(k:Kp M M')(h:∀c,C c→c<M.length):∀c,C c→M'[c]?=M[c]?:=fun c hc=>k.at' c (fun z=>z) (h c hc)
section
variable{K:PySem.W.Frag}{Γ:List DSp}{G:List D}
noncomputable abbrev rp:List D:=[.str "round",.str "part"]
theorem Zk5{M:Z2}{Q:DK}{h:Str}{d:D}{xs:List D}(hd:d= .tup (.str h::xs)∨d= .gtup (.str h::xs))(hh:inD (.str h) rp=false)(q:Q d M):tss ⟨K,Γ,G⟩ noX Xx {nx:=fun _ M=>Q .non M,rt:=Q} [some d] M:=by
 delta Xx
 rcases hd with rfl | rfl
 ·walk_at "ev"
  refine⟨Z1 (by decide),rfl,rfl,?_⟩
  dsimp only
  rw[hh,if_neg Bool.false_ne_true]
  delta Vz
  walk_at "ev"
  exact q
 ·walk_at "ev"
  refine⟨Z1 (by decide),rfl,rfl,?_⟩
  dsimp only
  rw[hh,if_neg Bool.false_ne_true]
  delta Vz
  walk_at "ev"
  exact q
theorem Zh3{M:Z2}{Q:DK}{h:Str}{n:Int}{c:Nat}(hh:inD (.str h) rp=true)(q:Q (.tup [.str h,.int n]) M):tss ⟨K,Γ,G⟩ noX Xx {nx:=fun _ M=>Q .non M,rt:=Q} [some (.tup [.str h,.int n,.ref c])] M:=by
 delta Xx
 walk_at "ev"
 refine⟨Z1 (by decide),rfl,rfl,?_⟩
 dsimp only
 rw[hh,if_pos rfl]
 exact q
theorem Br:∀ds M Q Z,Zh ds M Q Z→tss ⟨K,Γ,G⟩ noX b_line_of {nx:=fun _ M=>Q .non M,rt:=Q} (start0 Te ds) M:=by
 rintro ds M Q Z ⟨C,t,d,rfl,h,q⟩
 delta b_line_of Te
 rcases h with h | ⟨rfl,rfl⟩ | ⟨rfl,rfl⟩
 ·cases t with
  | leaf l=>
   obtain⟨rfl,h1,h2⟩:=h
   cases l with
   | cond=>cases h2
   | rnd=>cases h2
   | prt=>cases h2
   | els=>cases h1
   | don=>cases h1
   | _=>
    simp only[Ln.d]
    walk_at "ev"
    exact Zk5 (.inl rfl) (by decide+kernel) q
  | home r n b=>
   obtain⟨c,ds,rfl,_⟩:=h
   cases r with
   | true=>
    simp only[if_true]
    walk_at "ev"
    exact Zh3 (by decide+kernel) q
   | false=>
    simp only[Bool.false_eq_true,if_false]
    walk_at "ev"
    exact Zh3 (by decide+kernel) q
  | cho a s b y n=>
   obtain⟨c1,c2,d1,d2,rfl,_⟩:=h
   walk_at "ev"
   exact⟨by decide,q⟩
 ·walk_at "ev"
  exact Zk5 (.inr rfl) (by decide+kernel) q
 ·walk_at "ev"
  exact Zk5 (.inr rfl) (by decide+kernel) q
theorem Zl7{M:Z2}{Q:DK}{h:Str}{d:D}{xs:List D}(hd:d= .tup (.str h::xs)∨d= .gtup (.str h::xs))(hh:inD (.str h) rp=false)(hc:¬h="choice")(q:Q (.ref M.length) (M++[.lst []])):tss ⟨K,Γ,G⟩ noX b_told_within {nx:=fun _ M=>Q .non M,rt:=Q} (start0 Zz [d]) M:=by
 delta b_told_within Zz
 rcases hd with rfl | rfl
 ·walk_at "ev"
  refine⟨Z1 (by decide),rfl,rfl,?_⟩
  dsimp only
  rw[hh,if_neg Bool.false_ne_true]
  delta X7
  walk_at "ev"
  rw[if_pos hc]
  exact⟨Z1 (by decide),q⟩
 ·walk_at "ev"
  refine⟨Z1 (by decide),rfl,rfl,?_⟩
  dsimp only
  rw[hh,if_neg Bool.false_ne_true]
  delta X7
  walk_at "ev"
  rw[if_pos hc]
  exact⟨Z1 (by decide),q⟩
theorem Bi(e1:G[1]?=some (.gtup [.str "done"])){M:Z2}{Q:DK}{h:Str}{n:Int}{c:Nat}{ds:List D}(hh:inD (.str h) rp=true)(hc:Z4 M c=some ds)(hl:ds.length≤1000)(q:Q (.ref (M++[Cell.lst [D.gtup [.str "done"]]]).length) (M++[Cell.lst [D.gtup [.str "done"]]]++[.lst (ds++[.gtup [.str "done"]])])):tss ⟨K,Γ,G⟩ noX b_told_within {nx:=fun _ M=>Q .non M,rt:=Q} (start0 Zz [.tup [.str h,.int n,.ref c]]) M:=by
 delta b_told_within Zz
 walk_at "ev"
 refine⟨Z1 (by decide),rfl,rfl,?_⟩
 dsimp only
 rw[hh,if_pos rfl]
 simp only[e1]
 try walk_at "ev"
 exact⟨Z1 (by decide),_,_,Z8 hc,Z6 _ _ [],Z1 (by rw[List.length_singleton];omega),q⟩
theorem Pt(e0:G[0]?=some (.gtup [.str "else"]))(e1:G[1]?=some (.gtup [.str "done"])):∀ds M Q Z,Zx ds M Q Z→tss ⟨K,Γ,G⟩ noX b_told_within {nx:=fun _ M=>Q .non M,rt:=Q} (start0 Zz ds) M:=by
 rintro ds M Q Z ⟨C,t,d,rfl,h,hC,hz,q⟩
 have q0:∀l,sub' (.leaf l)=[]:=fun _=>rfl
 have em:sub' t=[]→Q (.ref M.length) (M++[.lst []]):=fun e=>q _ _ [] (Ks.new _ _) (by rw[e];rfl) (Z6 _ _ _) (Nat.le_refl _)
 rcases h with h | ⟨rfl,rfl⟩ | ⟨rfl,rfl⟩
 ·cases t with
  | leaf l=>
   obtain⟨rfl,h1,h2⟩:=h
   cases l with
   | cond=>cases h2
   | rnd=>cases h2
   | prt=>cases h2
   | els=>cases h1
   | don=>cases h1
   | _=>exact Zl7 (.inl rfl) (by decide+kernel) (by decide+kernel) (em rfl)
  | home r n b=>
   obtain⟨c,ds,rfl,hc,hr,rt⟩:=h
   have hl:ds.length≤1000:=by
    have:=Sc b
    rw[T5,List.length_cons,List.length_append] at hz
    rw[rt.len]
    omega
   have fin:=q (M++[Cell.lst [D.gtup [.str "done"]]]++[.lst (ds++[.gtup [.str "done"]])]) _ _ ((Ks.new _ _).app _) ((rt.rg.keep (((Ks.new M _).app _).cl hC)).app G9) (Z6 _ _ _) (by rw[List.length_append];omega)
   cases r with
   | true=>exact Bi e1 (by decide+kernel) hr hl fin
   | false=>exact Bi e1 (by decide+kernel) hr hl fin
  | cho a s b y n=>
   obtain⟨c1,c2,d1,d2,rfl,h1,h2,h3,h4,h5,h6⟩:=h
   delta b_told_within Zz
   walk_at "ev"
   refine⟨Z1 (by decide),rfl,rfl,?_⟩
   dsimp only
   rw[show inD (.str "choice") [.str "round",.str "part"]=false by decide+kernel,if_neg Bool.false_ne_true]
   delta X7
   walk_at "ev"
   delta V6
   walk_at "ev"
   rw[if_neg (by simp),show cutD [D.str "choice",a.d,D.str s,b.d,D.ref c1,D.ref c2] (some 4) none=[.ref c1,.ref c2] from rfl]
   refine⟨by decide,?_⟩
   walk_at "ev"
   have l1:=h4.len
   have l2:=h6.len
   have f1:=Sc y
   have f2:=Sc n
   have k1:Kp M (M++[.lst []]):=Ks.new _ _
   refine⟨Z1 (by decide),Tl (Z7 (Z0 h5)) (Zj _ _ []) ?_⟩
   cases n with
   | nil=>
    cases h6
    simp only[List.isEmpty_nil,e1]
    walk_at "ev"
    rw[Vy,List.length_cons,List.length_append] at hz
    refine⟨Z1 (by decide),_,_,Z8 (Z8 h3),Z6 _ _ [],Z1 (by rw[List.length_singleton];omega),?_⟩
    refine q _ _ _ ((k1.app _).app _) ((h4.rg.keep (((k1.app _).app _).cl hC)).app G9) (Z6 _ _ _) ?_
    simp only[List.length_append]
    omega
   | cons t us=>
    rw[S8] at hz
    simp only[List.length_cons,List.length_append] at hz l2 f2
    have ne:d2.isEmpty=false:=by cases d2<;>simp_all
    rw[ne,if_neg Bool.false_ne_true]
    delta V2
    walk_at "ev"
    simp only[e0,e1]
    refine⟨Z1 (by decide),_,_,Z8 (Z8 h3),Z6 _ _ [],Z1 (by rw[List.length_singleton];omega),?_⟩
    try walk_at "ev"
    refine⟨_,_,Z6 _ _ [],Z8 (Z8 (Z8 h5)),Z1 (by simp only[List.length_append,List.length_singleton];omega),?_⟩
    refine⟨Z1 (by decide),_,_,Z8 (Z6 _ _ []),Z6 _ _ [],Z1 (by simp only[List.length_append,List.length_singleton];omega),?_⟩
    have kk:=(((((k1.app [Cell.lst [D.gtup [.str "else"]]]).app [Cell.lst (d1++[D.gtup [.str "else"]])]).app [Cell.lst (d1++[D.gtup [.str "else"]]++d2)]).app [Cell.lst [D.gtup [.str "done"]]]).app [Cell.lst (d1++[D.gtup [.str "else"]]++d2++[D.gtup [.str "done"]])])
    refine q _ _ _ kk ((((h4.rg.keep (kk.cl hC)).app Zq6).app (h6.rg.keep (kk.cl hC))).app G9) (Z6 _ _ _) ?_
    simp only[List.length_append]
    omega
 ·exact Zl7 (.inr rfl) (by decide+kernel) (by decide+kernel) (em rfl)
 ·exact Zl7 (.inr rfl) (by decide+kernel) (by decide+kernel) (em rfl)
theorem Ei(gl:Γ[0]?=some Zh)(gt:Γ[1]?=some Zx):∀ds M Q Z,Ze ds M Q Z→tss ⟨K,Γ,G⟩ noX b_lines_of {nx:=fun _ M=>Q .non M,rt:=Q} (start0 Vm ds) M:=by
 rintro ds M Q Z ⟨C,us,r,ds',rfl,hr,rt,hC,hz,q⟩
 delta b_lines_of Vm
 generalize hw:S.while_ _ _=w
 walk_at "ev"
 refine⟨Z1 (by decide),_,Z7 (Z0 hr),?_⟩
 rw[List.append_assoc]
 subst hw
 refine U.Pw (c:=⟨K,Γ,G⟩) (X:=noX) (fun σ M'=>∃(d:Option D) (dn:List Ln) (its:List T) (es:List D),σ=[some (.ref r),some (.ref M.length),some (.ref (M.length+1)),d]∧Kp M M'∧Z4 M' M.length=some (dn.map Ln.g)∧Z4 M' (M.length+1)=some es.reverse∧RGs C M' its es∧dn++fls its=fls us) (fun σ M'=>1000 - ((Z4 M' M.length).getD []).length)
  ?_ ?_
 ·exact⟨none,[],us,ds',by simp,Ks.new _ _,Z6 _ _ _,Xn _ _ 1,rt.rg.keep ((Ks.new M _).cl hC),rfl⟩
 rintro σ M' ⟨d,dn,its,es,rfl,k,e1,e2,rg,ef⟩
 walk_at "ev"
 refine⟨Z1 (by decide),Tl (Z7 (Z0 e2)) (Zj _ _ []) ?_⟩
 have k1:Kp M (M'++[.lst []]):=k.app _
 have e1':=Z8 (N:=[.lst []]) e1
 have e2':=Z8 (N:=[.lst []]) e2
 have kc:∀c,C c→(M'++[Cell.lst []])[c]?=M'[c]?:=fun c h=>Q7 (Nat.lt_of_lt_of_le (hC c h) k.len)
 have rg':=rg.keep kc
 cases its with
 | nil=>
  cases rg
  rw[Wb,List.append_nil] at ef
  subst ef
  simp only[List.reverse_nil,List.isEmpty_nil]
  try walk_at "ev"
  delta Sr
  walk_at "ev"
  exact q _ _ k1 e1' (Nat.le_refl _)
 | cons t its=>
  obtain⟨d,es,rfl,h1,h2⟩:=rg'
  have en:((d::es).reverse).isEmpty=false:=by simp
  rw[en]
  delta Su
  walk_at "ev"
  have fz:dn.length+((fl t).length+(fls its).length)≤1000:=by
   rw[←List.length_append,←Yt,←List.length_append,ef]
   exact hz
  have ft:1≤(fl t).length:=by rw[Z87,List.length_cons];omega
  have hes:es.length≤1000:=by rw[h2.len];have:=Sc its;omega
  refine⟨Za (Z0 e2'),_,d,e2',by simp,?_⟩
  rw[show(d::es).reverse.dropLast=es.reverse by simp]
  have lt2:=Zc (Z0 e2')
  have e3:Z4 (List.set (M'++[Cell.lst []]) (M.length+1) (.lst es.reverse)) M.length=some (dn.map Ln.g):=by rw[Zb (by omega)];exact e1'
  have kc2:∀c,C c→(List.set (M'++[Cell.lst []]) (M.length+1) (.lst es.reverse))[c]?=(M'++[Cell.lst []])[c]?:=fun c h=>Xe (a:=M.length+1) (by have:=hC c h;omega)
  refine⟨Za (Z0 e3),?_⟩
  simp only[gl]
  refine⟨C,t,d,rfl,h1.keep kc2,?_⟩
  try walk_at "ev"
  refine⟨_,e3,Zd (by rw[List.length_map];omega),?_⟩
  have M4e:∀c,C c→((List.set (M'++[Cell.lst []]) (M.length+1) (.lst es.reverse)).set M.length (.lst (dn.map Ln.g++[(hdL t).g])))[c]?=(M'++[Cell.lst []])[c]?:=fun c h=>by
   rw[Xe (a:=M.length) (by have:=hC c h;omega)]
   exact kc2 c h
  have k4:Kp M ((List.set (M'++[Cell.lst []]) (M.length+1) (.lst es.reverse)).set M.length (.lst (dn.map Ln.g++[(hdL t).g]))):=(k1.set (.inr (by omega))).set (.inr (Nat.le_refl _))
  have f1:Z4 ((List.set (M'++[Cell.lst []]) (M.length+1) (.lst es.reverse)).set M.length (.lst (dn.map Ln.g++[(hdL t).g]))) M.length=some ((dn++[hdL t]).map Ln.g):=by
   rw[Z9 (Zc (Z0 e3)),List.map_append]
   rfl
  have f2:Z4 ((List.set (M'++[Cell.lst []]) (M.length+1) (.lst es.reverse)).set M.length (.lst (dn.map Ln.g++[(hdL t).g]))) (M.length+1)=some es.reverse:=by
   rw[Zb (by omega),Z9 lt2]
  generalize (List.set (M'++[Cell.lst []]) (M.length+1) (.lst es.reverse)).set M.length (.lst (dn.map Ln.g++[(hdL t).g]))=M4 at M4e k4 f1 f2 ⊢
  refine⟨Za (Z0 f2),?_⟩
  simp only[gt]
  have hC4:∀c,C c→c<M4.length:=fun c h=>Nat.lt_of_lt_of_le (hC c h) k4.len
  refine⟨C,t,d,rfl,h1.keep M4e,hC4,by omega,fun M5 r5 d5 k5 g5 e5 l5=>?_⟩
  have l5':=k4.len
  have f2':=k5.pW f2
  have d5l:d5.length≤1000:=by
   rw[g5.len]
   have:=Sc (sub' t)
   rw[Z87,List.length_cons] at fz
   omega
  refine⟨_,Z0 e5,_,_,Z8 f2',Z6 _ _ _,Z1 (by rw[List.length_reverse,List.length_reverse];omega),⟨_,dn++[hdL t],sub' t++its,d5++es,rfl,((k4.trans k5).app _).set (.inr (by omega)),?_,?_,?_,?_⟩,?_⟩
  ·rw[Zb (by omega)]
   exact Z8 (k5.pW f1)
  ·rw[Z9 (Zc (Z0 (Z8 f2'))),List.reverse_append]
  ·have kk:∀c,C c→(List.set (M5++[Cell.lst d5.reverse]) (M.length+1) (.lst (es.reverse++d5.reverse)))[c]?=M5[c]?:=fun c h=>by
    rw[Xe (a:=M.length+1) (by have:=hC c h;omega)]
    exact Q7 (Nat.lt_of_lt_of_le (hC4 c h) k5.len)
   exact(g5.keep kk).app ((h2.keep M4e).keep (fun c h=>(kk c h).trans (k5.cl hC4 c h)))
  ·rw[←ef,Yt,Z87,Xa]
   simp
  ·rw[Zb (by omega),Z8 (k5.pW f1),e1]
   simp
   omega
end
noncomputable def isR(n:Int):Ln→Bool
 | .rnd m=>m==n
 | _=>false
noncomputable def isP(n:Int):Ln→Bool
 | .prt m=>m==n
 | _=>false
noncomputable def kp:List Ln→List Ln→Bool
 | _,[]=>true
 | st,.cond a s b::ls=>kp (st++[.cond a s b]) ls
 | st,.rnd n::ls=>kp (st++[.rnd n]) ls
 | st,.prt n::ls=>kp (st++[.prt n]) ls
 | st,.don::ls=>kp st.dropLast ls
 | st,.lve n::ls=>(st.any (isR n) || st.any (isP n))&&kp st ls
 | st,.agn n::ls=>st.any (isR n)&&kp st ls
 | st,.sum _ _ _ _::ls=>kp st ls
 | st,.els::ls=>kp st ls
 | st,.fin::ls=>kp st ls
noncomputable def nums:List Ln→List Int
 | []=>[]
 | .rnd n::ls=>n::nums ls
 | .prt n::ls=>n::nums ls
 | _::ls=>nums ls
theorem Oh(ls:List Ln):(nums ls).length≤ls.length:=by
 induction ls with
 | nil=>exact Nat.le_refl _
 | cons l ls ih=>cases l<;>simp only[nums,List.length_cons]<;>omega
theorem Zy(a b:List Ln):nums (a++b)=nums a++nums b:=by
 induction a with
 | nil=>rfl
 | cons l a ih=>cases l<;>simp only[nums,List.cons_append,ih]
noncomputable def far(i:Int):Bool:=decide (i<0) || decide (9999<i)
noncomputable def snd(ls:List Ln):Bool:=decide (nums ls).Nodup&&!(nums ls).any far&&kp [] ls
noncomputable def dp:Nat→List Ln→Option Nat
 | n,[]=>some n
 | n,.cond _ _ _::ls=>dp (n+1) ls
 | n,.rnd _::ls=>dp (n+1) ls
 | n,.prt _::ls=>dp (n+1) ls
 | n+1,.don::ls=>dp n ls
 | 0,.don::_=>none
 | n,.sum _ _ _ _::ls=>dp n ls
 | n,.lve _::ls=>dp n ls
 | n,.agn _::ls=>dp n ls
 | n,.els::ls=>dp n ls
 | n,.fin::ls=>dp n ls
theorem Pn(a b:List Ln)(n:Nat):dp n (a++b)=(dp n a).bind fun m=>dp m b:=by
 induction a generalizing n with
 | nil=>rfl
 | cons l a ih=>
  cases l with
  | don=>cases n<;>simp only[dp,List.cons_append,ih,Option.bind_none]
  | _=>simp only[dp,List.cons_append,ih]
mutual
noncomputable def okT:T→Bool
 | .leaf l=>l.pl&&!l.beg
 | .home _ _ b=>okTs b
 | .cho _ _ _ y n=>okTs y&&okTs n
noncomputable def okTs:List T→Bool
 | []=>true
 | t::ts=>okT t&&okTs ts
end
mutual
theorem Zv9:∀(t:T) (n:Nat),okT t=true→dp n (fl t)=some n
 | .leaf l,n,h=>by
  rw[T6]
  cases l<;>first | rfl | (exact absurd h (by decide)) | cases h
 | .home r k b,n,h=>by
  rw[T5]
  cases r<;>(show dp (n+1) _=_;rw[Pn,Pp b (n+1) h];rfl)
 | .cho a s b y [],n,h=>by
  rw[Vy]
  have h1:okTs y=true:=(Bool.and_eq_true_iff.mp h).1
  show dp (n+1) _=_
  rw[Pn,Pp y (n+1) h1]
  rfl
 | .cho a s b y (t::us),n,h=>by
  rw[S8]
  obtain⟨h1,h2⟩:=Bool.and_eq_true_iff.mp h
  obtain⟨h3,h4⟩:=Bool.and_eq_true_iff.mp h2
  show dp (n+1) _=_
  rw[Pn,Pp y (n+1) h1]
  show dp (n+1) (fls (t::us)++[.don])=_
  rw[Yt,List.append_assoc,Pn,Zv9 t (n+1) h3]
  show dp (n+1) (fls us++[.don])=_
  rw[Pn,Pp us (n+1) h4]
  rfl
theorem Pp:∀(us:List T) (n:Nat),okTs us=true→dp n (fls us)=some n
 | [],n,_=>rfl
 | t::us,n,h=>by
  obtain⟨h1,h2⟩:=Bool.and_eq_true_iff.mp h
  rw[Yt,Pn,Zv9 t n h1]
  exact Pp us n h2
end
mutual
theorem RT.ok{C:Nat→Prop}{M:Z2}:∀{t:T} {d:D},RT C M t d→okT t=true
 | .leaf l,d,h=>by
  obtain⟨_,h1,h2⟩:=h
  show(l.pl&&!l.beg)=true
  rw[h1,h2];rfl
 | .home _ _ b,d,h=>by obtain⟨c,ds,_,_,_,h⟩:=h;exact RTs.ok h
 | .cho _ _ _ y n,d,h=>by
  obtain⟨_,_,_,_,_,_,_,_,h1,_,h2⟩:=h
  show(okTs y&&okTs n)=true
  rw[RTs.ok h1,RTs.ok h2];rfl
theorem RTs.ok{C:Nat→Prop}{M:Z2}:∀{us:List T} {ds:List D},RTs C M us ds→okTs us=true
 | [],ds,_=>rfl
 | t::us,ds,h=>by
  obtain⟨d,r,_,h1,h2⟩:=h
  show(okT t&&okTs us)=true
  rw[RT.ok h1,RTs.ok h2];rfl
end
noncomputable def oL(c:Str):Ln→List D
 | .cond a _ _=>[.str c,a.d]
 | .rnd n=>[.str "round",.int n]
 | .prt n=>[.str "part",.int n]
 | _=>[]
theorem Opd.flat(o:Opd):Y8 o.d=true:=by cases o<;>rfl
theorem Be(c:Str)(l:Ln):(oL c l).all Y8=true:=by
 cases l with
 | cond a s b=>show(Y8 (.str c)&&(Y8 a.d&&true))=true;rw[a.flat];rfl
 | _=>rfl
theorem Vs(a b:Str)(x:D)(n:Int):eqFs [.str a,x] [.str b,.int n]=(decide (a=b)&&eqF x (.int n)):=by
 show((eqF (.str a) (.str b)&&(eqF x (.int n)&&true))&&true)=_
 rw[Bool.and_true,Bool.and_true]
 show((a==b)&&_)=_
 congr 1
theorem Y50{c:Str}(hc:¬c="round")(st:List Ln)(n:Int):(st.map (oL c)).any (fun zs=>eqFs zs [.str "round",.int n])=st.any (isR n):=by
 rw[List.any_map]
 congr 1
 funext l
 show eqFs (oL c l) _=isR n l
 cases l with
 | cond a s b=>show eqFs [.str c,a.d] _=false;rw[Vs,decide_eq_false hc];rfl
 | rnd m=>show eqFs [.str "round",.int m] _=(m==n);rw[Vs,decide_eq_true rfl];rfl
 | prt m=>show eqFs [.str "part",.int m] _=false;rw[Vs,decide_eq_false (by decide+kernel)];rfl
 | _=>rfl
theorem Y39{c:Str}(hc:¬c="part")(st:List Ln)(n:Int):(st.map (oL c)).any (fun zs=>eqFs zs [.str "part",.int n])=st.any (isP n):=by
 rw[List.any_map]
 congr 1
 funext l
 show eqFs (oL c l) _=isP n l
 cases l with
 | cond a s b=>show eqFs [.str c,a.d] _=false;rw[Vs,decide_eq_false hc];rfl
 | prt m=>show eqFs [.str "part",.int m] _=(m==n);rw[Vs,decide_eq_true rfl];rfl
 | rnd m=>show eqFs [.str "round",.int m] _=false;rw[Vs,decide_eq_false (by decide+kernel)];rfl
 | _=>rfl
theorem in_R{c:Str}(hc:¬c="round"){M:Z2}{o:Nat}{st:List Ln}{n:Int}{B:Bool→Prop}(h:Zf M o=some ((st.map (oL c)).map .tup))(q:B (st.any (isR n))):inQ M (.tup [.str "round",.int n]) (.ref o) B:=
 .inr (.inr ⟨_,_,rfl,h,rfl,by rw[List.all_map];exact List.all_eq_true.mpr fun l _=>Be c l,by rw[Y50 hc];exact q⟩)
theorem in_P{c:Str}(hc:¬c="part"){M:Z2}{o:Nat}{st:List Ln}{n:Int}{B:Bool→Prop}(h:Zf M o=some ((st.map (oL c)).map .tup))(q:B (st.any (isP n))):inQ M (.tup [.str "part",.int n]) (.ref o) B:=
 .inr (.inr ⟨_,_,rfl,h,rfl,by rw[List.all_map];exact List.all_eq_true.mpr fun l _=>Be c l,by rw[Y39 hc];exact q⟩)
noncomputable def wi(st:List Ln):Ln→Bool
 | .lve n=>st.any (isR n) || st.any (isP n)
 | .agn n=>st.any (isR n)
 | _=>false
noncomputable def goes:Ln→Bool
 | .lve _ | .agn _=>true
 | _=>false
def Zk:DSp:=fun ds M Q _=>∃(l:Ln) (o:Nat) (st:List Ln),ds=[l.g,.ref o]∧goes l=true∧Zf M o=some ((st.map (oL "choice")).map .tup)∧Q (.bl (wi st l)) M
def Y7:DSp:=fun ds M Q _=>∃(r:Nat) (ls:List Ln),ds=[.ref r]∧Zf M r=some (ls.map Ln.g)∧ls.length≤2000∧(dp 0 ls).isSome=true∧∀M',Kp M M'→Q (.bl (kp [] ls)) M'
section
variable{K:PySem.W.Frag}{Γ:List DSp}{G:List D}
theorem Gg:∀ds M Q Z,Zk ds M Q Z→tss ⟨K,Γ,G⟩ noX b_is_within {nx:=fun _ M=>Q .non M,rt:=Q} (start0 Wj ds) M:=by
 rintro ds M Q Z ⟨l,o,st,rfl,hl,ho,q⟩
 delta b_is_within Wj
 cases l with
 | lve n=>
  simp only[Ln.g,Ln.d]
  walk_at "ev"
  refine⟨Z1 (by decide),in_R (by decide+kernel) ho ?_⟩
  simp only[wi] at q
  cases h1:st.any (isR n) with
  | true=>
   rw[h1] at q
   walk_at "ev"
   exact q
  | false=>
   rw[h1] at q
   delta Wl
   walk_at "ev"
   refine⟨Z1 (by decide),in_P (by decide+kernel) ho ?_⟩
   rw[Bool.false_or] at q
   exact q
 | agn n=>
  simp only[Ln.g,Ln.d]
  walk_at "ev"
  refine⟨Z1 (by decide),in_R (by decide+kernel) ho ?_⟩
  simp only[wi] at q
  cases h1:st.any (isR n) with
  | true=>
   rw[h1] at q
   walk_at "ev"
   exact q
  | false=>
   rw[h1] at q
   delta Wl
   walk_at "ev"
   exact q
 | _=>cases hl
end
theorem Tm(h k:Str)(xs:List D)(hk:¬h=k):eqFs (.str h::xs) [.str k]=false:=by
 unfold eqFs
 rw[show min (D.str h::xs).length [D.str k].length=1 by simp]
 show((eqF (.str h) (.str k)&&true)&&_)=false
 have:eqF (.str h) (.str k)=false:=by show(h==k)=false;simpa using hk
 rw[this]
 rfl
theorem B1{M:Z2}{x:D}{xs ys:List D}{B:Bool→Prop}(hx:x= .tup xs∨x= .gtup xs)(f1:xs.all Y8=true)(f2:ys.all Y8=true)(q:B (eqFs xs ys)):eqD M x (.gtup ys) B:=by
 rcases hx with rfl | rfl
 ·exact .inr (.inr (.inr ⟨xs,ys,.inl rfl,.inr rfl,f1,f2,q⟩))
 ·exact .inr (.inr (.inr ⟨xs,ys,.inr rfl,.inr rfl,f1,f2,q⟩))
theorem Sf{l:List D}{F:List D→Prop}:Bg (.tup l) F=F l:=rfl
section
variable{K:PySem.W.Frag}{Γ:List DSp}{G:List D}
theorem G6(c:Str)(st:List Ln)(l:Ln):((st++[l]).map (oL c)).map D.tup=(st.map (oL c)).map .tup++[.tup (oL c l)]:=by simp
theorem Bl{α:Type}{f:Ln→α}{st:List Ln}(h:st≠[]):∃d,(st.map f)[(st.map f).length - 1]?=some d∧(st.map f).dropLast=st.dropLast.map f:=by
 rcases List.eq_nil_or_concat st with rfl | ⟨tl,x,rfl⟩
 ·exact absurd rfl h
 ·exact⟨f x,by rw[List.concat_eq_append,List.map_append,List.length_append];simp,by rw[List.concat_eq_append,List.map_append];simp⟩
theorem N7(e1:G[1]?=some (.gtup [.str "done"]))(e2:G[2]?=some (.gtup [.str "choice",.str "round",.str "part"]))(gw:Γ[3]?=some Zk):∀ds M Q Z,Y7 ds M Q Z→tss ⟨K,Γ,G⟩ noX b_keep_within {nx:=fun _ M=>Q .non M,rt:=Q} (start0 Xl ds) M:=by
 rintro ds M Q Z ⟨r,ls,rfl,hr,hl,hd,q⟩
 delta b_keep_within Xl
 walk_at "ev"
 refine⟨Z1 (by decide),_,Z7 hr,?_⟩
 refine Sd (fun i σ M'=>∃(d:Option D) (st:List Ln),σ=[some (.ref r),some (.ref M.length),d]∧Kp M M'∧Z4 M' M.length=some ((st.map (oL "choice")).map .tup)∧kp [] ls=kp st (ls.drop i)∧(dp st.length (ls.drop i)).isSome=true∧st.length≤i) ⟨none,[],rfl,Ks.new _ _,Z6 _ _ _,rfl,hd,Nat.le_refl _⟩ ?_ ?_ ?_
 ·rintro i σ M' _ ⟨d,st,rfl,k,_⟩
  exact k.pL hr
 ·rintro i d σ M' P hdi ⟨d0,st,rfl,k,eo,ek,ed,el⟩ hP
  obtain⟨l,hl1,rfl⟩:∃l,ls[i]?=some l∧d=l.g:=by
   rw[List.getElem?_map] at hdi
   cases e:ls[i]? with
   | none=>rw[e] at hdi;cases hdi
   | some l=>rw[e] at hdi;cases hdi;exact⟨l,rfl,rfl⟩
  obtain⟨hi,hli⟩:=List.getElem?_eq_some_iff.mp hl1
  rw[List.drop_eq_getElem_cons hi,hli] at ek ed
  have lt:=Zc (Z0 eo)
  rw[tg_one]
  delta Wu
  have push:∀d1:Option D,kp [] ls=kp (st++[l]) (ls.drop (i+1))→(dp (st.length+1) (ls.drop (i+1))).isSome=true→P [some (.ref r),some (.ref M.length),d1] (M'.set M.length (.lst ((st.map (oL "choice")).map .tup++[.tup (oL "choice" l)]))):=by
   intro d1 h1 h2
   refine hP _ _ ⟨d1,st++[l],rfl,k.set (.inr (Nat.le_refl _)),?_,h1,by rw[List.length_append];exact h2,by rw[List.length_append,List.length_singleton];omega⟩
   rw[Z9 lt,G6]
  have stay:∀d1:Option D,kp [] ls=kp st (ls.drop (i+1))→(dp st.length (ls.drop (i+1))).isSome=true→P [some (.ref r),some (.ref M.length),d1] M':=fun d1 h1 h2=>hP _ _ ⟨d1,st,rfl,k,eo,h1,h2,by omega⟩
  have sz:((st.map (oL "choice")).map D.tup).length<sizeLine:=Zd (by rw[List.length_map,List.length_map];omega)
  have go:∀(h:Str) (n:Int) (d1:Option D),inD (.str h) [.str "leave",.str "again"]=true→l.g= .tup [.str h,.int n]→goes l=true→kp [] ls=(wi st l&&kp st (ls.drop (i+1)))→(dp st.length (ls.drop (i+1))).isSome=true→
    inQ M' (.str h) (.tup [.str "leave",.str "again"]) fun r1=>if r1=true then Zk [.tup [.str h,.int n],.ref M.length] M' (fun x M1=>truD M1 x fun b=>if b=false then Q (.bl false) M1 else P [some (.ref r),some (.ref M.length),d1] M1) noX else if r1=true then Q (.bl false) M' else P [some (.ref r),some (.ref M.length),d1] M':=by
   intro h n d1 h1 h2 h3 h4 h5
   refine⟨rfl,rfl,?_⟩
   dsimp only
   rw[h1,if_pos rfl,←h2]
   refine⟨l,M.length,st,rfl,h3,Z0 eo,?_⟩
   dsimp only
   rw[tru_b]
   cases hw:wi st l with
   | false=>
    rw[if_pos rfl]
    have:=q M' k
    rw[h4,hw] at this
    exact this
   | true=>
    rw[if_neg (by decide)]
    exact stay d1 (by rw[h4,hw];rfl) h5
  cases l with
  | cond a s b=>
   simp only[Ln.g]
   walk_at "ev"
   simp only[e2]
   refine⟨rfl,rfl,?_⟩
   dsimp only
   rw[show inD (.str "choice") [.str "choice",.str "round",.str "part"]=true by decide+kernel,if_pos rfl,Sf]
   exact⟨Za (Z0 eo),_,eo,sz,push _ ek ed⟩
  | rnd n=>
   simp only[Ln.g,Ln.d]
   walk_at "ev"
   simp only[e2]
   refine⟨rfl,rfl,?_⟩
   dsimp only
   rw[show inD (.str "round") [.str "choice",.str "round",.str "part"]=true by decide+kernel,if_pos rfl,Sf]
   exact⟨Za (Z0 eo),_,eo,sz,push _ ek ed⟩
  | prt n=>
   simp only[Ln.g,Ln.d]
   walk_at "ev"
   simp only[e2]
   refine⟨rfl,rfl,?_⟩
   dsimp only
   rw[show inD (.str "part") [.str "choice",.str "round",.str "part"]=true by decide+kernel,if_pos rfl,Sf]
   exact⟨Za (Z0 eo),_,eo,sz,push _ ek ed⟩
  | don=>
   simp only[Ln.g]
   walk_at "ev"
   simp only[e1,e2]
   refine⟨rfl,rfl,?_⟩
   dsimp only
   rw[show inD (.str "done") [.str "choice",.str "round",.str "part"]=false by decide+kernel,if_neg Bool.false_ne_true]
   refine B1 (.inr rfl) rfl rfl ?_
   rw[show eqFs [.str "done"] [.str "done"]=true by decide+kernel,if_pos rfl]
   have hne:st≠[]:=by
    rintro rfl
    cases ed
   obtain⟨d,h1,h2⟩:=Bl (f:=fun l=>D.tup (oL "choice" l)) hne
   have eo':Z4 M' M.length=some (st.map fun l=>D.tup (oL "choice" l)):=by rw[eo,List.map_map];rfl
   refine⟨Za (Z0 eo),_,d,eo',h1,hP _ _ ⟨_,st.dropLast,rfl,k.set (.inr (Nat.le_refl _)),?_,ek,?_,by rw[List.length_dropLast];omega⟩⟩
   ·rw[Z9 lt,h2,List.map_map]
    rfl
   ·rw[List.length_dropLast]
    have:st.length=(st.length - 1)+1:=by have:=List.length_pos_iff.mpr hne;omega
    rw[this] at ed
    exact ed
  | lve n=>
   simp only[Ln.g,Ln.d]
   walk_at "ev"
   simp only[e1,e2,gw]
   refine⟨rfl,rfl,?_⟩
   dsimp only
   rw[show inD (.str "leave") [.str "choice",.str "round",.str "part"]=false by decide+kernel,if_neg Bool.false_ne_true]
   refine B1 (.inl rfl) rfl rfl ?_
   rw[Tm _ _ _ (by decide+kernel),if_neg Bool.false_ne_true]
   exact⟨Z1 (by decide),go "leave" n _ (by decide+kernel) rfl rfl ek ed⟩
  | agn n=>
   simp only[Ln.g,Ln.d]
   walk_at "ev"
   simp only[e1,e2,gw]
   refine⟨rfl,rfl,?_⟩
   dsimp only
   rw[show inD (.str "again") [.str "choice",.str "round",.str "part"]=false by decide+kernel,if_neg Bool.false_ne_true]
   refine B1 (.inl rfl) rfl rfl ?_
   rw[Tm _ _ _ (by decide+kernel),if_neg Bool.false_ne_true]
   exact⟨Z1 (by decide),go "again" n _ (by decide+kernel) rfl rfl ek ed⟩
  | sum x a s b=>
   simp only[Ln.g,Ln.d]
   walk_at "ev"
   simp only[e1,e2]
   refine⟨rfl,rfl,?_⟩
   dsimp only
   rw[show inD (.str "sum") [.str "choice",.str "round",.str "part"]=false by decide+kernel,if_neg Bool.false_ne_true]
   refine B1 (.inl rfl) (by show(true&&(true&&(Y8 a.d&&(true&&(Y8 b.d&&true)))))=true;rw[a.flat,b.flat];rfl) rfl ?_
   rw[Tm _ _ _ (by decide+kernel),if_neg Bool.false_ne_true]
   refine⟨Z1 (by decide),rfl,rfl,?_⟩
   dsimp only
   rw[show inD (.str "sum") [.str "leave",.str "again"]=false by decide+kernel,if_neg Bool.false_ne_true,if_neg Bool.false_ne_true]
   exact stay _ ek ed
  | els=>
   simp only[Ln.g]
   walk_at "ev"
   simp only[e1,e2]
   refine⟨rfl,rfl,?_⟩
   dsimp only
   rw[show inD (.str "else") [.str "choice",.str "round",.str "part"]=false by decide+kernel,if_neg Bool.false_ne_true]
   refine B1 (.inr rfl) rfl rfl ?_
   rw[Tm _ _ _ (by decide+kernel),if_neg Bool.false_ne_true]
   refine⟨Z1 (by decide),rfl,rfl,?_⟩
   dsimp only
   rw[show inD (.str "else") [.str "leave",.str "again"]=false by decide+kernel,if_neg Bool.false_ne_true,if_neg Bool.false_ne_true]
   exact stay _ ek ed
  | fin=>
   simp only[Ln.g,Ln.d]
   walk_at "ev"
   simp only[e1,e2]
   refine⟨rfl,rfl,?_⟩
   dsimp only
   rw[show inD (.str "end") [.str "choice",.str "round",.str "part"]=false by decide+kernel,if_neg Bool.false_ne_true]
   refine B1 (.inl rfl) rfl rfl ?_
   rw[Tm _ _ _ (by decide+kernel),if_neg Bool.false_ne_true]
   refine⟨Z1 (by decide),rfl,rfl,?_⟩
   dsimp only
   rw[show inD (.str "end") [.str "leave",.str "again"]=false by decide+kernel,if_neg Bool.false_ne_true,if_neg Bool.false_ne_true]
   exact stay _ ek ed
 ·rintro σ M' ⟨d,st,rfl,k,eo,ek,ed,el⟩
  rw[List.length_map,List.drop_length] at ek
  delta Ww
  walk_at "ev"
  have:=q M' k
  rw[ek] at this
  exact this
end
theorem Tf{α:Type}[DecidableEq α]:∀{a b:List α},a.Nodup→(∀x∈a,x∈b)→a.length≤b.length
 | [],_,_,_=>Nat.zero_le _
 | x::r,b,nd,h=>by
  have nd:=List.nodup_cons.mp nd
  have hx:=h x List.mem_cons_self
  have ih:=Tf (b:=b.erase x) nd.2 fun y hy=>by
   have:y≠x:=fun z=>nd.1 (z ▸ hy)
   exact(List.mem_erase_of_ne this).mpr (h y (List.mem_cons_of_mem _ hy))
  rw[List.length_erase_of_mem hx] at ih
  have:0<b.length:=List.length_pos_of_mem hx
  rw[List.length_cons]
  omega
theorem Z97{α:Type}[DecidableEq α]{a b:List α}(na:a.Nodup)(m:∀x,x∈a↔x∈b):decide (a.length<b.length)= !decide b.Nodup:=by
 by_cases nb:b.Nodup
 ·have h1:=Tf na fun x hx=>(m x).mp hx
  have h2:=Tf nb fun x hx=>(m x).mpr hx
  rw[decide_eq_false (by omega),decide_eq_true nb]
  rfl
 ·rw[decide_eq_false nb,Bool.not_false,decide_eq_true_eq]
  have:∃c:List α,c.length<b.length∧∀x∈b,x∈c:=by
   clear na m
   induction b with
   | nil=>exact absurd List.nodup_nil nb
   | cons x b ih=>
    by_cases hx:x∈b
    ·exact⟨b,by simp,fun y hy=>(List.mem_cons.mp hy).elim (fun z=>z ▸ hx) fun z=>z⟩
    ·obtain⟨c,h1,h2⟩:=ih fun z=>nb (List.nodup_cons.mpr ⟨hx,z⟩)
     exact⟨x::c,by simp;omega,fun y hy=>(List.mem_cons.mp hy).elim (fun z=>by rw[z];exact List.mem_cons_self) fun z=>List.mem_cons_of_mem _ (h2 y z)⟩
  obtain⟨c,h1,h2⟩:=this
  have:=Tf na fun x hx=>h2 x ((m x).mp hx)
  omega
theorem Cv{ns:List Int}:decide (ns.map (Sum.inl:Int→Key)).Nodup=decide ns.Nodup:=by
 congr 1
 rw[eq_iff_iff]
 constructor
 ·intro h
  exact List.Pairwise.of_map Sum.inl (fun a b h z=>h (by rw[z])) h
 ·intro h
  exact List.Pairwise.map Sum.inl (fun a b h z=>h (Sum.inl.inj z)) h
def Zt:DSp:=fun ds M Q _=>∃C us r ds',ds=[.ref r]∧Z4 M r=some ds'∧RTs C M us ds'∧(∀c,C c→c<M.length)∧(fls us).length≤1000∧∀M',Kp M M'→Q (.bl (snd (fls us))) M'
section
variable{K:PySem.W.Frag}{Γ:List DSp}{G:List D}
theorem Zq7(e3:G[3]?=some (.int 9999))(gl:Γ[2]?=some Ze)(gk:Γ[4]?=some Y7):∀ds M Q Z,Zt ds M Q Z→tss ⟨K,Γ,G⟩ noX b_sound {nx:=fun _ M=>Q .non M,rt:=Q} (start0 Oo ds) M:=by
 rintro ds M Q Z ⟨C,us,r,ds',rfl,hr,rt,hC,hz,q⟩
 delta b_sound Oo
 walk_at "ev"
 simp only[gl]
 refine⟨C,us,r,ds',rfl,hr,rt,hC,hz,fun M1 r1 k1 e1 l1=>?_⟩
 have hdp:=Pp us 0 rt.ok
 generalize fls us=ls at *
 walk_at "ev"
 refine⟨_,Z0 e1,?_⟩
 simp only[capD,List.map_cons,List.map_nil,Option.bind_none]
 refine Tn (fun i σ M'=>∃d,σ=[d]∧Kp M1 M'∧Z4 M' M1.length=some ((nums (ls.take i)).map .int)) ⟨none,rfl,Ks.new _ _,Z6 _ _ _⟩ ?_ ?_ ?_
 ·rintro i σ M' _ ⟨d,rfl,k,_⟩
  exact k.pL (Z0 e1)
 ·rintro i d σ M' P hd ⟨d0,rfl,k,e⟩ hP
  obtain⟨l,hl1,rfl⟩:∃l,ls[i]?=some l∧d=l.g:=by
   rw[List.getElem?_map] at hd
   cases e:ls[i]? with
   | none=>rw[e] at hd;cases hd
   | some l=>rw[e] at hd;cases hd;exact⟨l,rfl,rfl⟩
  have hi:=(List.getElem?_eq_some_iff.mp hl1).1
  have lt:=Zc (Z0 e)
  have hn:(nums (ls.take i)).length≤1000:=by
   have:=Oh (ls.take i)
   rw[List.length_take] at this
   omega
  have no:nums [l]=[]→∀d1:Option D,P [d1] M':=fun h d1=>hP _ _ ⟨d1,rfl,k,by rw[Zq hl1,Zy,h,List.append_nil];exact e⟩
  have yes:∀n:Int,nums [l]=[n]→∀d1:Option D,∃acc,Z4 M' M1.length=some acc∧acc.length<sizeLine∧P [d1] (M'.set M1.length (.lst (acc++[.int n]))):=fun n h d1=>
   ⟨_,e,Zd (by rw[List.length_map];omega),hP _ _ ⟨d1,rfl,k.set (.inr (Nat.le_refl _)),by rw[Z9 lt,Zq hl1,Zy,h,List.map_append];rfl⟩⟩
  rw[tg_one]
  cases l with
  | rnd n=>
   simp only[Ln.g,Ln.d]
   walk_at "ev"
   refine⟨Z1 (by decide),rfl,rfl,?_⟩
   dsimp only
   rw[show inD (.str "round") [.str "round",.str "part"]=true by decide+kernel,if_pos rfl]
   exact yes n rfl _
  | prt n=>
   simp only[Ln.g,Ln.d]
   walk_at "ev"
   refine⟨Z1 (by decide),rfl,rfl,?_⟩
   dsimp only
   rw[show inD (.str "part") [.str "round",.str "part"]=true by decide+kernel,if_pos rfl]
   exact yes n rfl _
  | _=>
   simp only[Ln.g,Ln.d]
   walk_at "ev"
   refine⟨Z1 (by decide),rfl,rfl,?_⟩
   dsimp only
   first
   | rw[show inD (.str "choice") [.str "round",.str "part"]=false by decide+kernel,if_neg Bool.false_ne_true]
   | rw[show inD (.str "sum") [.str "round",.str "part"]=false by decide+kernel,if_neg Bool.false_ne_true]
   | rw[show inD (.str "leave") [.str "round",.str "part"]=false by decide+kernel,if_neg Bool.false_ne_true]
   | rw[show inD (.str "again") [.str "round",.str "part"]=false by decide+kernel,if_neg Bool.false_ne_true]
   | rw[show inD (.str "else") [.str "round",.str "part"]=false by decide+kernel,if_neg Bool.false_ne_true]
   | rw[show inD (.str "done") [.str "round",.str "part"]=false by decide+kernel,if_neg Bool.false_ne_true]
   | rw[show inD (.str "end") [.str "round",.str "part"]=false by decide+kernel,if_neg Bool.false_ne_true]
   exact no rfl _
 rintro σ M2 ⟨d,rfl,k2,e2⟩
 rw[List.length_map,List.take_length] at e2
 have hn:=Oh ls
 try walk_at "ev"
 have sb:(1002:Nat)<scanBound:=by decide
 refine⟨(nums ls).map Sum.inl,by rw[List.map_map];exact Z0 e2,by rw[List.length_map];omega,fun ks' nd hm=>Y4 (Z0 e2) ?_⟩
 have nl:=Z97 nd hm
 rw[Cv,List.length_map] at nl
 walk_at "ev"
 rw[List.length_map]
 have k12:Kp M M2:=k1.trans k2
 by_cases hnd:(nums ls).Nodup
 case neg=>
  rw[decide_eq_false hnd,Bool.not_false,decide_eq_true_eq] at nl
  rw[if_pos (by omega)]
  have:=q M2 k12
  unfold snd at this
  rw[decide_eq_false hnd] at this
  exact this
 rw[decide_eq_true hnd,Bool.not_true,decide_eq_false_iff_not] at nl
 rw[if_neg (by omega)]
 have q':∀M',Kp M M'→Q (.bl (!(nums ls).any far&&kp [] ls)) M':=fun M' k=>by
  have:=q M' k
  unfold snd at this
  rw[decide_eq_true hnd,Bool.true_and] at this
  exact this
 delta Jl
 walk_at "ev"
 refine⟨_,Z0 e2,?_⟩
 simp only[capD,List.map_cons,List.map_nil,Option.bind_none]
 refine Tn (fun i σ M'=>∃d,σ=[d]∧Kp M2 M'∧Z4 M' M2.length=some ((((nums ls).take i).map far).map .bl)) ⟨none,rfl,Ks.new _ _,Z6 _ _ _⟩ ?_ ?_ ?_
 ·rintro i σ M' _ ⟨d,rfl,k,_⟩
  exact k.pL (Z0 e2)
 ·rintro i d σ M' P hd ⟨d0,rfl,k,e⟩ hP
  obtain⟨n,hn1,rfl⟩:∃n,(nums ls)[i]?=some n∧d= .int n:=by
   rw[List.getElem?_map] at hd
   cases e:(nums ls)[i]? with
   | none=>rw[e] at hd;cases hd
   | some l=>rw[e] at hd;cases hd;exact⟨l,rfl,rfl⟩
  have lt:=Zc (Z0 e)
  have put:∀(b:Bool) (d1:Option D),b=far n→∃acc,Z4 M' M2.length=some acc∧acc.length<sizeLine∧P [d1] (M'.set M2.length (.lst (acc++[.bl b]))):=by
   rintro b d1 rfl
   refine⟨_,e,Zd (by rw[List.length_map,List.length_map,List.length_take];omega),hP _ _ ⟨d1,rfl,k.set (.inr (Nat.le_refl _)),?_⟩⟩
   rw[Z9 lt,Zq hn1,List.map_append,List.map_append]
   rfl
  rw[tg_one]
  walk_at "ev"
  simp only[e3]
  by_cases h1:n<0
  ·rw[if_neg (fun z=>z h1)]
   exact put _ _ (by unfold far;rw[decide_eq_true h1];rfl)
  ·rw[if_pos h1]
   try walk_at "ev"
   exact put _ _ (by unfold far;rw[decide_eq_false h1];rfl)
 rintro σ M3 ⟨d,rfl,k3,e3'⟩
 rw[List.length_map,List.take_length] at e3'
 try walk_at "ev"
 have k13:Kp M M3:=k12.trans k3
 refine⟨_,Z0 e3',?_⟩
 have ea:((nums ls).map far).any id=(nums ls).any far:=by rw[List.any_map];rfl
 rw[ea]
 try walk_at "ev"
 have q'':=q' M3 k13
 cases hf:(nums ls).any far with
 | true=>
  rw[hf] at q''
  exact q''
 | false=>
  delta Nu
  walk_at "ev"
  simp only[gk]
  refine⟨r1,ls,rfl,k3.pL (k2.pL (Z0 e1)),by omega,by rw[hdp];rfl,fun M4 k4=>?_⟩
  have:=q' M4 (k13.trans k4)
  rw[hf] at this
  exact this
end
theorem Zu6{ls:List Ln}:∀{st st':List Tp},run st ls=some st'→dp st.length ls=some st'.length:=by
 induction ls with
 | nil=>intro st st' h;cases h;rfl
 | cons l ls ih=>
  intro st st' h
  change (stp st l).bind _=_ at h
  cases e:stp st l with
  | none=>rw[e] at h;cases h
  | some t=>
   rw[e] at h
   have h2:=ih h
   cases l with
   | els=>obtain⟨r,rfl,rfl⟩:=G7 e;exact h2
   | don=>obtain⟨t',rfl⟩:=O3 e;exact h2
   | _=>cases e;exact h2
def X6:DSp:=fun ds M Q _=>∃(a:Nat) (ls:List Ln),ds=[.ref a]∧Zf M a=some (ls.map Ln.d)∧ls.length≤200∧(dp 0 ls).isSome=true∧∀M',Kp M M'→Q (.bl (snd ls)) M'
theorem Gv(n:Int)(ns:List Int):inD (.int n) (ns.map .int)=decide (n∈ns):=by
 unfold inD
 rw[List.any_map]
 induction ns with
 | nil=>rfl
 | cons m ns ih=>
  rw[List.any_cons,ih]
  show((m==n) || decide (n∈ns))=_
  by_cases h:m=n
  ·subst h;simp
  ·have h2:¬n=m:=fun z=>h z.symm
   simp[h,h2]
theorem J7(ns:List Int):(ns.map D.int).all Y8=true:=by
 rw[List.all_eq_true]
 intro d h
 obtain⟨x,_,rfl⟩:=List.mem_map.mp h
 rfl
section
variable{K:PySem.W.Frag}{Γ:List DSp}{G:List D}
noncomputable def Zv4:Ln→Bool
 | .don | .lve _ | .agn _=>false
 | _=>true
noncomputable def Y13:Ln→Bool
 | .agn _=>false
 | _=>true
noncomputable def Zv3:Ln→Bool
 | .lve _ | .agn _=>false
 | _=>true
theorem Ps{R:DEnds}{l:Ln}{x y z:Option D}{M:Z2}(h:Y13 l=true)(q:R.nx [x,y,z,some l.d] M):tss ⟨K,Γ,G⟩ noX Wf R [x,y,z,some l.d] M:=by
 cases l with
 | agn=>cases h
 | _=>
  simp only[Wf,Ln.d] at *
  walk_at "ev"
  exact q
theorem Gq{R:DEnds}{l:Ln}{x y z:Option D}{M:Z2}(h:Zv3 l=true)(q:R.nx [x,y,z,some l.d] M):tss ⟨K,Γ,G⟩ noX Xp R [x,y,z,some l.d] M:=by
 have q2:Y13 l=true→tss ⟨K,Γ,G⟩ noX Wf R [x,y,z,some l.d] M:=fun h=>Ps h q
 cases l with
 | lve=>cases h
 | agn=>cases h
 | _=>
  simp only[Xp,Ln.d] at *
  walk_at "ev"
  exact q2 rfl
theorem Sg{R:DEnds}{l:Ln}{x y z:Option D}{M:Z2}(h:Zv4 l=true)(q:R.nx [x,y,z,some l.d] M):tss ⟨K,Γ,G⟩ noX Xo R [x,y,z,some l.d] M:=by
 have q3:Zv3 l=true→tss ⟨K,Γ,G⟩ noX Xp R [x,y,z,some l.d] M:=fun h=>Gq h q
 cases l with
 | don=>cases h
 | lve=>cases h
 | agn=>cases h
 | _=>
  simp only[Xo,Ln.d] at *
  walk_at "ev"
  exact q3 rfl
theorem Zc9(g:Γ[13]?=some Zl):∀ds M Q Z,X6 ds M Q Z→tss ⟨K,Γ,G⟩ noX b_Lsound {nx:=fun _ M=>Q .non M,rt:=Q} (start0 Ra ds) M:=by
 rintro ds M Q Z ⟨a,ls,rfl,hr,hl,hd,q⟩
 delta b_Lsound Ra
 walk_at "ev"
 refine⟨Z1 (by decide),Z1 (by decide),_,Z7 (Z7 hr),?_⟩
 rw[List.append_assoc]
 refine Sd (fun i σ M'=>∃(d:Option D) (st:List Ln),σ=[some (.ref a),some (.ref M.length),some (.ref (M.length+1)),d]∧Kp M M'∧Z4 M' M.length=some ((nums (ls.take i)).map .int)∧Z4 M' (M.length+1)=some ((st.map (oL "if")).map .tup)∧kp [] ls=kp st (ls.drop i)∧(dp st.length (ls.drop i)).isSome=true∧st.length≤i∧(nums (ls.take i)).Nodup∧(nums (ls.take i)).any far=false) ?_ ?_ ?_ ?_
 ·exact⟨none,[],by simp,Ks.new _ _,Z6 _ _ _,Xn _ _ 1,rfl,hd,Nat.le_refl _,List.nodup_nil,rfl⟩
 ·rintro i σ M' _ ⟨d,st,rfl,k,_⟩
  exact k.pL hr
 ·rintro i d σ M' P hdi ⟨d0,st,rfl,k,eu,eo,ek,ed,el,hnd,hfr⟩ hP
  obtain⟨l,hl1,rfl⟩:∃l,ls[i]?=some l∧d=l.d:=by
   rw[List.getElem?_map] at hdi
   cases e:ls[i]? with
   | none=>rw[e] at hdi;cases hdi
   | some l=>rw[e] at hdi;cases hdi;exact⟨l,rfl,rfl⟩
  obtain⟨hi,hli⟩:=List.getElem?_eq_some_iff.mp hl1
  rw[List.drop_eq_getElem_cons hi,hli] at ek ed
  have lt:=Zc (Z0 eo)
  have lu:=Zc (Z0 eu)
  have en:nums ls=nums (ls.take i)++(nums [l]++nums (ls.drop (i+1))):=by
   have h1:=congrArg nums (List.take_append_drop i ls)
   rw[List.drop_eq_getElem_cons hi,hli,Zy] at h1
   rw[←h1]
   congr 1
   exact Zy [l] _
  have hnl:(nums (ls.take i)).length≤200:=by
   have:=Oh (ls.take i)
   rw[List.length_take] at this
   omega
  have bad:snd ls=false→Q (.bl false) M':=fun h=>by have:=q M' k;rw[h] at this;exact this
  have bad2:∀x:Cell,snd ls=false→Q (.bl false) (M'.set (M.length+1) x):=fun x h=>by have:=q _ (k.set (a:=M.length+1) (c:=x) (.inr (by omega)));rw[h] at this;exact this
  have stay:nums [l]=[]→kp [] ls=kp st (ls.drop (i+1))→(dp st.length (ls.drop (i+1))).isSome=true→∀d1:Option D,P [some (.ref a),some (.ref M.length),some (.ref (M.length+1)),d1] M':=fun h0 h1 h2 d1=>
   hP _ _ ⟨d1,st,rfl,k,by rw[Zq hl1,Zy,h0,List.append_nil];exact eu,eo,h1,h2,by omega,by rw[Zq hl1,Zy,h0,List.append_nil];exact hnd,by rw[Zq hl1,Zy,h0,List.append_nil];exact hfr⟩
  have kpF:kp [] ls=false→snd ls=false:=fun h=>by unfold snd;rw[h,Bool.and_false]
  have sz:((st.map (oL "if")).map D.tup).length<sizeLine:=Zd (by rw[List.length_map,List.length_map];omega)
  have bad3:∀M1,Kp M M1→snd ls=false→Q (.bl false) M1:=fun M1 k1 h=>by have:=q M1 k1;rw[h] at this;exact this
  have twice:∀n,nums [l]=[n]→n∈nums (ls.take i)→snd ls=false:=by
   intro n h0 hm
   unfold snd
   rw[en,h0,decide_eq_false]
   ·rfl
   ·intro z
    rw[List.nodup_append] at z
    exact z.2.2 n hm n (by simp) rfl
  have isF:∀n,nums [l]=[n]→far n=true→snd ls=false:=by
   intro n h0 hf
   unfold snd
   rw[en,h0,List.any_append]
   simp[hf]
  have good:∀(n:Int) (M1:Z2) (X1:Z2→Prop) (d1:Option D),(∀M2,P [some (.ref a),some (.ref M.length),some (.ref (M.length+1)),d1] M2→X1 M2)→nums [l]=[n]→kp [] ls=kp (st++[l]) (ls.drop (i+1))→(dp (st.length+1) (ls.drop (i+1))).isSome=true→
    Kp M M1→Z4 M1 M.length=some ((nums (ls.take i)).map .int)→Z4 M1 (M.length+1)=some (((st++[l]).map (oL "if")).map .tup)→¬n∈nums (ls.take i)→far n=false→
    (Zf M1 M.length).isSome=true∧∃xs2,Z4 M1 M.length=some xs2∧xs2.length<sizeLine∧X1 (M1.set M.length (.lst (xs2++[.int n]))):=by
   intro n M1 X1 d1 hX h0 h1 h2 k1 u1 o1 hm hf
   refine⟨Za (Z0 u1),_,u1,Zd (by rw[List.length_map];omega),hX _ (hP _ _ ⟨d1,st++[l],rfl,k1.set (.inr (Nat.le_refl _)),?_,?_,h1,?_,?_,?_,?_⟩)⟩
   ·rw[Z9 (Zc (Z0 u1)),Zq hl1,Zy,h0,List.map_append]
    rfl
   ·rw[Zb (by omega)]
    exact o1
   ·rw[List.length_append]
    exact h2
   ·rw[List.length_append,List.length_singleton]
    omega
   ·rw[Zq hl1,Zy,h0,List.nodup_append]
    exact⟨hnd,by simp,fun x hx y hy z=>by
     cases List.mem_singleton.mp hy
     exact hm (z ▸ hx)⟩
   ·rw[Zq hl1,Zy,h0,List.any_append,hfr]
    simp[hf]
  have k1:Kp M (M'.set (M.length+1) (.lst ((st.map (oL "if")).map .tup++[.tup (oL "if" l)]))):=k.set (.inr (by omega))
  have u1:Z4 (M'.set (M.length+1) (.lst ((st.map (oL "if")).map .tup++[.tup (oL "if" l)]))) M.length=some ((nums (ls.take i)).map .int):=by rw[Zb (by omega)];exact eu
  have o1:Z4 (M'.set (M.length+1) (.lst ((st.map (oL "if")).map .tup++[.tup (oL "if" l)]))) (M.length+1)=some (((st++[l]).map (oL "if")).map .tup):=by rw[Z9 lt,G6]
  rw[tg_one]
  delta Qt
  walk_at "ev"
  simp only[g]
  refine⟨l,rfl,?_⟩
  cases l with
  | cond x s y=>
   simp only[Ln.beg,Ln.d,Yd]
   walk_at "ev"
   rw[Sf]
   refine⟨Za (Z0 eo),_,eo,sz,Sg (l:= .cond x s y) rfl<| hP _ _ ⟨_,st++[.cond x s y],rfl,k.set (.inr (by omega)),?_,?_,ek,by rw[List.length_append];exact ed,by rw[List.length_append,List.length_singleton];omega,?_,?_⟩⟩
   ·rw[Zb (by omega),Zq hl1,Zy,eu]
    simp[nums]
   ·rw[Z9 lt,G6]
    rfl
   ·rw[Zq hl1,Zy]
    simpa[nums] using hnd
   ·rw[Zq hl1,Zy]
    simpa[nums] using hfr
  | rnd n=>
   simp only[Ln.beg,Ln.d,Yd,S4]
   walk_at "ev"
   rw[Sf]
   refine⟨Za (Z0 eo),_,eo,sz,?_⟩
   rw[if_neg (by simp)]
   rw[show cutD [D.str "round",D.int n] none (some 2)=oL "if" (.rnd n) from rfl]
   generalize M'.set (M.length+1) (.lst ((st.map (oL "if")).map .tup++[.tup (oL "if" (.rnd n))]))=M1 at k1 u1 o1 ⊢
   refine .inl ⟨_,Z0 u1,rfl,J7 _,?_⟩
   dsimp only
   rw[Gv]
   by_cases hm:n∈nums (ls.take i)
   ·rw[decide_eq_true hm,if_neg (by decide),if_pos rfl]
    exact bad3 _ k1 (twice n rfl hm)
   ·rw[decide_eq_false hm,if_pos rfl]
    by_cases n0:n<0
    ·rw[if_neg (fun z=>z n0),if_pos n0]
     exact bad3 _ k1 (isF n rfl (by unfold far;rw[decide_eq_true n0];rfl))
    ·rw[if_pos n0]
     by_cases n9:9999<n
     ·rw[if_pos n9]
      exact bad3 _ k1 (isF n rfl (by unfold far;rw[decide_eq_true n9,Bool.or_true]))
     ·rw[if_neg n9]
      exact good n M1 _ _ (fun M2 h=>Sg (l:= .rnd n) rfl h) rfl ek ed k1 u1 o1 hm (by unfold far;rw[decide_eq_false n0,decide_eq_false n9];rfl)
  | prt n=>
   simp only[Ln.beg,Ln.d,Yd,S4]
   walk_at "ev"
   rw[Sf]
   refine⟨Za (Z0 eo),_,eo,sz,?_⟩
   rw[show cutD [D.str "part",D.int n] none (some 2)=oL "if" (.prt n) from rfl]
   generalize M'.set (M.length+1) (.lst ((st.map (oL "if")).map .tup++[.tup (oL "if" (.prt n))]))=M1 at k1 u1 o1 ⊢
   refine .inl ⟨_,Z0 u1,rfl,J7 _,?_⟩
   dsimp only
   rw[Gv]
   by_cases hm:n∈nums (ls.take i)
   ·rw[decide_eq_true hm,if_neg (by decide),if_pos rfl]
    exact bad3 _ k1 (twice n rfl hm)
   ·rw[decide_eq_false hm,if_pos rfl]
    by_cases n0:n<0
    ·rw[if_neg (fun z=>z n0),if_pos n0]
     exact bad3 _ k1 (isF n rfl (by unfold far;rw[decide_eq_true n0];rfl))
    ·rw[if_pos n0]
     by_cases n9:9999<n
     ·rw[if_pos n9]
      exact bad3 _ k1 (isF n rfl (by unfold far;rw[decide_eq_true n9,Bool.or_true]))
     ·rw[if_neg n9]
      exact good n M1 _ _ (fun M2 h=>Sg (l:= .prt n) rfl h) rfl ek ed k1 u1 o1 hm (by unfold far;rw[decide_eq_false n0,decide_eq_false n9];rfl)
  | don=>
   simp only[Ln.beg,Ln.d]
   walk_at "ev"
   delta Yd
   walk_at "ev"
   delta Xo
   walk_at "ev"
   have hne:st≠[]:=by
    rintro rfl
    cases ed
   obtain⟨d,h1,h2⟩:=Bl (f:=fun l=>D.tup (oL "if" l)) hne
   have eo':Z4 M' (M.length+1)=some (st.map fun l=>D.tup (oL "if" l)):=by rw[eo,List.map_map];rfl
   refine⟨Za (Z0 eo),_,d,eo',h1,Gq (l:= .don) rfl<| hP _ _ ⟨_,st.dropLast,rfl,k.set (.inr (by omega)),?_,?_,ek,?_,by rw[List.length_dropLast];omega,?_,?_⟩⟩
   ·rw[Zb (by omega),Zq hl1,Zy,eu]
    simp[nums]
   ·rw[Z9 lt,h2,List.map_map]
    rfl
   ·rw[List.length_dropLast]
    have:st.length=(st.length - 1)+1:=by have:=List.length_pos_iff.mpr hne;omega
    rw[this] at ed
    exact ed
   ·rw[Zq hl1,Zy]
    simpa[nums] using hnd
   ·rw[Zq hl1,Zy]
    simpa[nums] using hfr
  | lve n=>
   simp only[Ln.beg,Ln.d]
   walk_at "ev"
   delta Yd
   walk_at "ev"
   delta Xo
   walk_at "ev"
   delta Xp
   walk_at "ev"
   have ek':kp [] ls=((st.any (isR n) || st.any (isP n))&&kp st (ls.drop (i+1))):=ek
   refine⟨Z1 (by decide),in_R (by decide+kernel) (Z0 eo) ?_⟩
   cases h1:st.any (isR n) with
   | true=>
    rw[h1] at ek'
    exact Ps (l:= .lve n) rfl (stay rfl ek' ed _)
   | false=>
    rw[if_pos rfl]
    refine⟨Z1 (by decide),in_P (by decide+kernel) (Z0 eo) ?_⟩
    cases h2:st.any (isP n) with
    | true=>
     rw[h1,h2] at ek'
     exact Ps (l:= .lve n) rfl (stay rfl ek' ed _)
    | false=>
     rw[h1,h2] at ek'
     exact bad (kpF ek')
  | agn n=>
   simp only[Ln.beg,Ln.d]
   walk_at "ev"
   delta Yd
   walk_at "ev"
   delta Xo
   walk_at "ev"
   delta Xp
   walk_at "ev"
   delta Wf
   walk_at "ev"
   have ek':kp [] ls=(st.any (isR n)&&kp st (ls.drop (i+1))):=ek
   refine⟨Z1 (by decide),in_R (by decide+kernel) (Z0 eo) ?_⟩
   cases h1:st.any (isR n) with
   | true=>
    rw[h1] at ek'
    exact stay rfl ek' ed _
   | false=>
    rw[h1] at ek'
    exact bad (kpF ek')
  | sum x p1 s p2=>
   simp only[Ln.beg,Ln.d]
   walk_at "ev"
   delta Yd
   walk_at "ev"
   exact Sg (l:= .sum x p1 s p2) rfl (stay rfl ek ed _)
  | els=>
   simp only[Ln.beg,Ln.d]
   walk_at "ev"
   delta Yd
   walk_at "ev"
   exact Sg (l:= .els) rfl (stay rfl ek ed _)
  | fin=>
   simp only[Ln.beg,Ln.d]
   walk_at "ev"
   delta Yd
   walk_at "ev"
   exact Sg (l:= .fin) rfl (stay rfl ek ed _)
 ·rintro σ M' ⟨d,st,rfl,k,eu,eo,ek,ed,el,hnd,hfr⟩
  rw[List.length_map,List.take_length] at hnd hfr
  rw[List.length_map,List.drop_length] at ek
  delta Pk
  walk_at "ev"
  have:=q M' k
  unfold snd at this
  rw[decide_eq_true hnd,hfr,ek] at this
  exact this
end
noncomputable def hasN:Ln→Bool
 | .rnd _ | .prt _ | .lve _ | .agn _=>true
 | _=>false
noncomputable def sh:Ln→Ln
 | .rnd _=> .rnd 0
 | .prt _=> .rnd 0
 | .lve _=> .fin
 | .agn _=> .fin
 | l=>l
noncomputable def knd:Tp→Tp
 | .cpt=> .crd
 | t=>t
theorem Zv1(st:List Tp)(l:Ln):stp (st.map knd) (sh l)=(stp st l).map (·.map knd):=by
 cases l with
 | els=>
  cases st with
  | nil=>rfl
  | cons t st=>cases t<;>rfl
 | don=>cases st<;>rfl
 | _=>rfl
theorem Zh6(ls:List Ln):∀st:List Tp,run (st.map knd) (ls.map sh)=(run st ls).map (·.map knd):=by
 induction ls with
 | nil=>intro st;rfl
 | cons l ls ih=>
  intro st
  show(stp (st.map knd) (sh l)).bind _=((stp st l).bind _).map _
  rw[Zv1]
  cases stp st l with
  | none=>rfl
  | some t=>exact ih t
theorem E7{ls ms:List Ln}(h:ms.map sh=ls.map sh)(r:run [] ls=some []):run [] ms=some []:=by
 have h1:=Zh6 ls []
 have h2:=Zh6 ms []
 rw[h,List.map_nil] at h2
 rw[r,List.map_nil,h2] at h1
 cases e:run [] ms with
 | none=>rw[e] at h1;cases h1
 | some x=>
  rw[e] at h1
  have:x.map knd=[]:=by simpa using h1
  rw[List.map_eq_nil_iff] at this
  rw[this]
def Px:DSp:=fun ds M Q _=>∃l:Ln,ds=[l.d]∧∀M',Kp M M'→Q (.bl (hasN l)) M'
def Yw:DSp:=fun ds M Q _=>∃(a r v:Nat) (ls:List Ln),ds=[.ref a,.ref r,.int v]∧Scr M a∧Zf M r=some (ls.map Ln.d)∧ls.length≤200∧∀(n:Int) M',Kp M M'→Q (.int n) M'
def Xs:DSp:=fun ds M Q _=>∃(a r v:Nat) (ls:List Ln),ds=[.ref a,.ref r,.int v]∧Scr M a∧Zf M r=some (ls.map Ln.d)∧ls.length≤200∧∀(ms:List Ln) M' r',ms.map sh=ls.map sh→Kp M M'→Zf M' r'=some (ms.map Ln.d)→Q (.ref r') M'
theorem Y07{ls:List Ln}{i:Nat}{d:D}(h:(ls.map Ln.d)[i]?=some d):∃l,ls[i]?=some l∧d=l.d:=by
 rw[List.getElem?_map] at h
 cases e:ls[i]? with
 | none=>rw[e] at h;cases h
 | some l=>rw[e] at h;cases h;exact⟨l,rfl,rfl⟩
section
variable{K:PySem.W.Frag}{Γ:List DSp}{G:List D}
theorem O1:∀ds M Q Z,Px ds M Q Z→tss ⟨K,Γ,G⟩ noX b_Lhas_number {nx:=fun _ M=>Q .non M,rt:=Q} (start0 Xm ds) M:=by
 rintro ds M Q Z ⟨l,rfl,q⟩
 have fin:∀h:Str,inD (.str h) [.str "round",.str "part",.str "leave",.str "again"]=hasN l→inQ (M++[.lst [.str "round",.str "part",.str "leave",.str "again"]]) (.str h) (.ref M.length) fun r=>Q (.bl r) (M++[.lst [.str "round",.str "part",.str "leave",.str "again"]]):=by
  intro h e
  refine .inl ⟨_,Zj _ _ [],rfl,rfl,?_⟩
  dsimp only
  rw[e]
  exact q _ (Ks.new _ _)
 delta b_Lhas_number Xm
 cases l<;>simp only[Ln.d]<;>walk_at "ev" <;>refine⟨Z1 (by decide),fin _ ?_⟩<;>simp only[hasN]<;>decide+kernel
theorem Jm(g:Γ[6]?=some Xd):∀ds M Q Z,Yw ds M Q Z→tss ⟨K,Γ,G⟩ noX b_Lnumber_by {nx:=fun _ M=>Q .non M,rt:=Q} (start0 W0 ds) M:=by
 rintro ds M Q Z ⟨a,r,v,ls,rfl,hs,hr,hl,q⟩
 delta b_Lnumber_by W0
 walk_at "ev"
 refine⟨_,hr,?_⟩
 simp only[capD,List.map_cons,List.map_nil,Option.bind_none]
 refine Tn (fun i σ M'=>∃(d:Option D) (ns:List Int),σ=[d]∧Kp M M'∧Z4 M' M.length=some (ns.map .int)∧ns.length≤i) ⟨none,[],rfl,Ks.new _ _,Z6 _ _ [],Nat.le_refl _⟩ ?_ ?_ ?_
 ·rintro i σ M' _ ⟨d,ns,rfl,k,_⟩
  exact k.pL hr
 ·rintro i d σ M' P hd ⟨d0,ns,rfl,k,e,l0⟩ hP
  obtain⟨l,hl1,rfl⟩:=Y07 hd
  have hi:=(List.getElem?_eq_some_iff.mp hl1).1
  have lt:=Zc (Z0 e)
  have yes:∀(n:Int) (d1:Option D),∃acc,Z4 M' M.length=some acc∧acc.length<sizeLine∧P [d1] (M'.set M.length (.lst (acc++[.int n]))):=fun n d1=>
   ⟨_,e,Zd (by rw[List.length_map];omega),hP _ _ ⟨d1,ns++[n],rfl,k.set (.inr (Nat.le_refl _)),by rw[Z9 lt,List.map_append];rfl,by rw[List.length_append,List.length_singleton];omega⟩⟩
  have no:∀d1:Option D,P [d1] M':=fun d1=>hP _ _ ⟨d1,ns,rfl,k,e,by omega⟩
  rw[tg_one]
  cases l with
  | rnd n=>
   simp only[Ln.d]
   walk_at "ev"
   exact yes n _
  | prt n=>
   simp only[Ln.d]
   walk_at "ev"
   exact yes n _
  | _=>
   simp only[Ln.d]
   walk_at "ev"
   exact no _
 rintro σ M1 ⟨d,ns,rfl,k1,e1,l1⟩
 rw[List.length_map] at l1
 try walk_at "ev"
 simp only[g]
 refine⟨a,7,rfl,hs.ks k1 (fun z=>z),fun w=>?_⟩
 dsimp only
 walk_at "ev"
 have fin:∀(w:Int) (M2:Z2),Kp M M2→Zf M2 M1.length=some [.int (-1),.int 10000,.int 0,.int 9999,.int w]→tss ⟨K,Γ,G⟩ noX W9 {nx:=fun _ M=>Q .non M,rt:=Q} [some (.ref a),some (.ref r),some (.int v),some (.ref M.length),some (.ref M1.length)] M2:=by
  intro w M2 k2 e2
  delta W9
  walk_at "ev"
  refine⟨Zi (by decide) (by decide),ix_m e2 rfl (Nat.succ_pos _) fun d hd=>?_⟩
  simp only[List.mem_cons,List.not_mem_nil,or_false] at hd
  rcases hd with rfl | rfl | rfl | rfl | rfl<;>exact q _ _ k2
 refine⟨⟨by decide,by decide,by decide⟩,mulL (by decide) (by decide),by decide,⟨by decide,by decide,by decide⟩,Z1 (by decide),Zi (by decide) (by decide),?_⟩
 split
 ·refine⟨Z1 (by decide),Tl (Z7 (Z7 (Z0 e1))) (Zj _ _ []) ?_⟩
  cases ns with
  | nil=>exact fin _ _ ((k1.app _).app _) (Z7 (Zj _ _ []))
  | cons n ns=>
   simp only[List.map_cons,List.isEmpty_cons]
   try walk_at "ev"
   refine⟨Zi (by decide) (by decide),Y4 (Z7 (Z7 (Z0 e1))) ?_⟩
   walk_at "ev"
   refine⟨by simp only[List.length_map,List.length_cons];omega,ix_m (Z7 (Z7 (Z0 e1))) (by simp) (Nat.succ_pos _) fun d hd=>?_⟩
   obtain⟨i,_,rfl⟩:=List.mem_map.mp hd
   exact q _ _ ((k1.app _).app _)
 ·exact fin _ _ (k1.app _) (Zj _ _ [])
noncomputable def rn(n:Int):Ln→Ln
 | .rnd _=> .rnd n
 | .prt _=> .prt n
 | .lve _=> .lve n
 | .agn _=> .agn n
 | l=>l
noncomputable def tn:Ln→Ln
 | .rnd n=> .prt n
 | .prt n=> .rnd n
 | .lve n=> .agn n
 | .agn n=> .lve n
 | l=>l
theorem Zw9(n:Int)(l:Ln):sh (rn n l)=sh l:=by cases l<;>rfl
theorem Y33(l:Ln):sh (tn l)=sh l:=by cases l<;>rfl
theorem Zi7{l:Ln}(h:hasN l=true):∃(s:Str) (m:Int),l.d= .tup [.str s,.int m]∧(∀n,(rn n l).d= .tup [.str s,.int n])∧∃s',valD (Zn6 (([("round","part"),("part","round"),("leave","again"),("again","leave")]:List (Str×Str)).map fun q=>(Sum.inr q.1,D.str q.2))) (.inr s)=some (.str s')∧(tn l).d= .tup [.str s',.int m]:=by
 cases l with
 | rnd m=>exact⟨_,m,rfl,fun _=>rfl,"part",by rfl,rfl⟩
 | prt m=>exact⟨_,m,rfl,fun _=>rfl,"round",by rfl,rfl⟩
 | lve m=>exact⟨_,m,rfl,fun _=>rfl,"again",by rfl,rfl⟩
 | agn m=>exact⟨_,m,rfl,fun _=>rfl,"leave",by rfl,rfl⟩
 | _=>cases h
theorem Zt5{α:Type}(xs:List α){k:Nat}(h:k≤xs.length):U.cutD xs none (some (k:Int))=xs.take k:=by
 unfold U.cutD
 have h1:HT.sIx xs.length 0 none=0:=rfl
 have h2:HT.sIx xs.length xs.length (some (k:Int))=k:=by rw[HT.Z73];omega
 rw[h1,h2,List.drop_zero,Nat.sub_zero]
theorem Zb2{α:Type}(xs:List α){k:Nat}(h:k≤xs.length):U.cutD xs (some (k:Int)) none=xs.drop k:=by
 unfold U.cutD
 have h1:HT.sIx xs.length xs.length none=xs.length:=rfl
 have h2:HT.sIx xs.length 0 (some (k:Int))=k:=by rw[HT.Z73];omega
 rw[h1,h2]
 exact List.take_of_length_le (by rw[List.length_drop];omega)
theorem Cq(gh:Γ[22]?=some Px)(gn:Γ[23]?=some Yw):∀ds M Q Z,Xs ds M Q Z→tss ⟨K,Γ,G⟩ noX b_Lchanged {nx:=fun _ M=>Q .non M,rt:=Q} (start0 Vl ds) M:=by
 rintro ds M Q Z ⟨a,r,v,ls,rfl,hs,hr,hl,q⟩
 delta b_Lchanged Vl
 walk_at "ev"
 refine Y4 hr ?_
 try walk_at "ev"
 rw[List.length_map]
 refine⟨by omega,by omega,?_⟩
 rw[Int.toNat_natCast]
 simp only[capD,List.map_cons,List.map_nil,Option.bind_none,Option.bind_some,List.getElem?_cons_zero,List.getElem?_cons_succ,Option.join_some]
 refine Tn (fun i σ M'=>∃(d:Option D) (ks:List Nat),σ=[d,some (.ref r)]∧Kp M M'∧Z4 M' M.length=some (ks.map fun k:Nat=>D.int (k:Int))∧ks.length≤i∧∀k∈ks,∃l,ls[k]?=some l∧hasN l=true) ⟨none,[],rfl,Ks.new _ _,Z6 _ _ [],Nat.le_refl _,fun _ h=>by cases h⟩ ?_ ?_ ?_
 ·rintro i σ M' _ ⟨d,ks,rfl,_⟩
  trivial
 ·rintro i d σ M' P hd ⟨d0,ks,rfl,k,e,l0,hk⟩ hP
  have hi:i<ls.length:=by
   have:=(List.getElem?_eq_some_iff.mp hd).1
   rwa[W6] at this
  rw[J0 hi] at hd
  cases hd
  rw[tg_one]
  simp only[Int.zero_add]
  walk_at "ev"
  refine ix_l (k.pL hr) (by rw[List.getElem?_map,List.getElem?_eq_getElem hi];rfl) ?_
  simp only[gh]
  refine⟨ls[i],rfl,fun M2 k2=>?_⟩
  try walk_at "ev"
  have k':=k.trans k2
  cases hb:hasN ls[i] with
  | false=>exact hP _ _ ⟨_,ks,rfl,k',k2.pW e,by omega,hk⟩
  | true=>
   have e':=k2.pW e
   refine⟨_,e',Zd (by rw[List.length_map];omega),hP _ _ ⟨_,ks++[i],rfl,k'.set (.inr (Nat.le_refl _)),?_,by rw[List.length_append,List.length_singleton];omega,fun x hx=>?_⟩⟩
   ·rw[Z9 (Zc (Z0 e')),List.map_append]
    rfl
   ·rcases List.mem_append.mp hx with hx | hx
    ·exact hk x hx
    ·cases List.mem_singleton.mp hx
     exact⟨_,List.getElem?_eq_getElem hi,hb⟩
 rintro σ M1 ⟨d,ks,rfl,k1,e1,l1,hk⟩
 rw[W6] at l1
 try walk_at "ev"
 refine⟨Z1 (by decide),Tl (Z7 (Z0 e1)) (Zj _ _ []) ?_⟩
 have k2:Kp M (M1++[.lst []]):=k1.app _
 cases ks with
 | nil=>
  simp only[List.map_nil,List.isEmpty_nil]
  try walk_at "ev"
  exact q ls _ _ rfl k2 (k2.pL hr)
 | cons k0 ks=>
  simp only[List.map_cons,List.isEmpty_cons]
  try walk_at "ev"
  have e2:=Z8 (N:=[.lst []]) e1
  generalize M1++[.lst []]=M2 at k2 e2 ⊢
  delta Sx
  walk_at "ev"
  refine⟨Zi (by decide) (by decide),Y4 (Z0 e2) ?_⟩
  walk_at "ev"
  refine⟨by simp only[List.length_map,List.length_cons];omega,ix_m (Z0 e2) (by simp) (Nat.succ_pos _) fun d' hd=>?_⟩
  obtain⟨kk,hkk,rfl⟩:=List.mem_map.mp hd
  obtain⟨l,hl1,hN⟩:=hk kk hkk
  have hi:=(List.getElem?_eq_some_iff.mp hl1).1
  try walk_at "ev"
  refine ix_l (k2.pL hr) (by rw[List.getElem?_map,hl1];rfl) ?_
  simp only[gn]
  obtain⟨v2,hv2⟩:∃v2:Nat,qmod ((v:Int) * 16807) 2147483563=v2:=by
   rw[qm (by decide)]
   have:=Int.emod_nonneg ((v:Int) * 16807) (show(2147483563:Int)≠0 by decide)
   exact⟨((v:Int) * 16807 % 2147483563).toNat,by omega⟩
  refine⟨mulR (by decide) (by decide),a,r,v2,ls,by rw[hv2],hs.ks k2 (fun z=>z),k2.pL hr,hl,fun n M3 k3=>?_⟩
  have k23:=k2.trans k3
  have hr3:=k23.pL hr
  obtain⟨s,m,ed,en,s',es,et⟩:=Zi7 hN
  have lsl:(ls.map Ln.d).length=ls.length:=List.length_map ..
  have c1:U.cutD (ls.map Ln.d) none (some (kk:Int))=(ls.map Ln.d).take kk:=Zt5 _ (by omega)
  have c2:U.cutD (ls.map Ln.d) (some ((kk:Int)+1)) none=(ls.map Ln.d).drop (kk+1):=by
   rw[show(kk:Int)+1=((kk+1:Nat):Int) by omega]
   exact Zb2 _ (by omega)
  have z1:((ls.map Ln.d).take kk).length≤200:=by rw[List.length_take];omega
  have z2:((ls.map Ln.d).drop (kk+1)).length≤200:=by rw[List.length_drop];omega
  have fin:∀(l':Ln) (M9:Z2) (r9:Nat),sh l'=sh l→Kp M M9→Zf M9 r9=some ((ls.map Ln.d).take kk++[l'.d]++(ls.map Ln.d).drop (kk+1))→Q (.ref r9) M9:=by
   intro l' M9 r9 h1 k9 e9
   refine q (ls.take kk++[l']++ls.drop (kk+1)) _ _ ?_ k9 ?_
   ·have e0:ls=ls.take kk++[l]++ls.drop (kk+1):=by
     have e1:=List.take_append_drop kk ls
     rw[List.drop_eq_getElem_cons hi,(List.getElem?_eq_some_iff.mp hl1).2] at e1
     rw[List.append_assoc]
     exact e1.symm
    conv=>rhs;rw[e0]
    simp only[List.map_append,List.map_cons,List.map_nil,h1]
   ·rw[e9]
    simp only[List.map_append,List.map_take,List.map_drop,List.map_cons,List.map_nil]
  split
  ·refine⟨Z1 (by decide),_,Z7 hr3,?_⟩
   refine Sd (fun i σ M'=>∃(d8:Option D) (ms:List Ln),σ=[some (.ref a),some (.ref r),some (.int v),some (.ref M.length),some (.int kk),some l.d,some (.int n),some (.ref M3.length),d8,none]∧Kp M3 M'∧Z4 M' M3.length=some (ms.map Ln.d)∧ms.map sh=(ls.take i).map sh) ⟨none,[],rfl,Ks.new _ _,Z6 _ _ [],rfl⟩ ?_ ?_ ?_
   ·rintro i σ M' _ ⟨d8,ms,rfl,k4,_⟩
    exact k4.pL hr3
   ·rintro i d8 σ M' P hd8 ⟨d0,ms,rfl,k4,e4,h4⟩ hP
    obtain⟨l8,hl8,rfl⟩:=Y07 hd8
    have hi8:=(List.getElem?_eq_some_iff.mp hl8).1
    have hml:ms.length≤200:=by
     have:=congrArg List.length h4
     rw[List.length_map,List.length_map,List.length_take] at this
     omega
    have put:∀(l':Ln) (M'':Z2) (d1:Option D),sh l'=sh l8→Kp M' M''→∀x,x=l'.d→(Zf M'' M3.length).isSome=true∧∃xs,Z4 M'' M3.length=some xs∧xs.length<sizeLine∧P [some (.ref a),some (.ref r),some (.int v),some (.ref M.length),some (.int kk),some l.d,some (.int n),some (.ref M3.length),d1,none] (M''.set M3.length (.lst (xs++[x]))):=by
     rintro l' M'' d1 h1 k5 x rfl
     have e5:=k5.pW e4
     refine⟨Za (Z0 e5),_,e5,Zd (by rw[List.length_map];omega),hP _ _ ⟨d1,ms++[l'],rfl,(k4.trans k5).set (.inr (Nat.le_refl _)),?_,?_⟩⟩
     ·rw[Z9 (Zc (Z0 e5)),List.map_append]
      rfl
     ·rw[Zq hl8,List.map_append,List.map_append,h4]
      simp[h1]
    rw[tg_one]
    delta Sm
    walk_at "ev"
    simp only[gh]
    refine⟨l8,rfl,fun M5 k5=>?_⟩
    try walk_at "ev"
    cases hb:hasN l8 with
    | false=>
     try walk_at "ev"
     exact put l8 M5 _ rfl k5 _ rfl
    | true=>
     obtain⟨s8,m8,ed8,en8,_⟩:=Zi7 hb
     rw[ed8,ed]
     walk_at "ev"
     rw[ed] at put
     split
     ·refine⟨Za (Z0 (k5.pW e4)),Z1 (by decide),?_⟩
      exact(put (rn n l8) M5 _ (Zw9 n l8) k5 _ (en8 n).symm).2
     ·exact put l8 M5 _ rfl k5 _ ed8.symm
   ·rintro σ M' ⟨d8,ms,rfl,k4,e4,h4⟩
    rw[lsl,List.take_length] at h4
    delta Sy
    walk_at "ev"
    exact q ms _ _ h4 (k23.trans k4) (Z0 e4)
  ·delta Sl
   rw[ed]
   walk_at "ev"
   split
   ·refine⟨_,hr3,Z1 (by decide),Z1 (by decide),_,_,Z8 (Z6 _ _ []),Z6 _ _ [],Z1 (by rw[c1,List.length_singleton];omega),_,Z7 (Z7 (Z7 hr3)),_,_,Z8 (Z6 _ _ []),Z6 _ _ [],Z1 (by rw[c1,c2,List.length_append,List.length_singleton];omega),?_⟩
    rw[c1,c2,←en n]
    exact fin _ _ _ (Zw9 n l) (((((k23.app _).app _).app _).app _).app _) (Zj _ _ [])
   ·delta Sq
    walk_at "ev"
    refine⟨_,Z7 hr3,ix_d (Z47 (Z29 _ _ [])) rfl es ⟨Z1 (by decide),Z1 (by decide),_,_,Z8 (Z6 _ _ []),Z6 _ _ [],Z1 (by rw[c1,List.length_singleton];omega),_,Z7 (Z7 (Z7 (Z7 hr3))),_,_,Z8 (Z6 _ _ []),Z6 _ _ [],Z1 (by rw[c1,c2,List.length_append,List.length_singleton];omega),?_⟩⟩
    rw[c1,c2,←et]
    exact fin _ _ _ (Y33 l) ((((((k23.app _).app _).app _).app _).app _).app _) (Zj _ _ [])
end
section
variable{K:PySem.W.Frag}
noncomputable def fN:D→Bool
 | .bl _ | .int _ | .str _=>true
 | _=>false
def AL(M:Z2):Nat→D→D→Prop
 | 0,x,y=>x=y∧fN x=true
 | n+1,x,y=>(x=y∧fN x=true)∨(∃xs ys,x= .tup xs∧y= .tup ys∧xs.length=ys.length∧∀(i:Nat) a b,xs[i]?=some a→ys[i]?=some b→AL M n a b)∨
   ∃m k xs ys,x= .ref m∧y= .ref k∧Z4 M m=some xs∧Z4 M k=some ys∧xs.length=ys.length∧∀(i:Nat) a b,xs[i]?=some a→ys[i]?=some b→AL M n a b
def Xy(n:Nat):DSp:=fun ds M Q _=>∃x y,ds=[x,y]∧AL M n x y∧Q (.bl true) M
theorem AL.flat{M:Z2}{n:Nat}{x:D}(h:fN x=true):AL M n x x:=by
 cases n with
 | zero=>exact⟨rfl,h⟩
 | succ n=>exact .inl ⟨rfl,h⟩
theorem AL.up{M:Z2}:∀{n m:Nat} {x y:D},AL M n x y→n≤m→AL M m x y
 | 0,m,x,y,h,_=>by obtain⟨rfl,h⟩:=h;exact AL.flat h
 | n+1,0,x,y,h,l=>absurd l (Nat.not_succ_le_zero _)
 | n+1,m+1,x,y,h,l=>by
  rcases h with h | ⟨xs,ys,h1,h2,h3,h4⟩ | ⟨a,b,xs,ys,h1,h2,h3,h4,h5,h6⟩
  ·exact .inl h
  ·exact .inr (.inl ⟨xs,ys,h1,h2,h3,fun i x y e1 e2=>(h4 i x y e1 e2).up (Nat.le_of_succ_le_succ l)⟩)
  ·exact .inr (.inr ⟨a,b,xs,ys,h1,h2,h3,h4,h5,fun i x y e1 e2=>(h6 i x y e1 e2).up (Nat.le_of_succ_le_succ l)⟩)
theorem Pf{Γ G}{M:Z2}{Q:DK}{x:D}(h:fN x=true)(q:Q (.bl true) M):tss ⟨K,Γ,G⟩ noX b_Lalike {nx:=fun _ M=>Q .non M,rt:=Q} (start0 W7 [x,x]) M:=by
 delta b_Lalike W7
 cases x with
 | bl b=>
  walk_at "ev"
  simpa using q
 | int i=>
  walk_at "ev"
  delta Wg
  walk_at "ev"
  simpa using q
 | str z=>
  walk_at "ev"
  delta Wg
  walk_at "ev"
  delta Vn
  walk_at "ev"
  simpa using q
 | _=>exact absurd h Bool.false_ne_true
theorem Zw2{xs ys:List D}{i:Nat}{d:D}(h:(zipT xs ys)[i]?=some d):∃a b,xs[i]?=some a∧ys[i]?=some b∧d= .tup [a,b]:=by
 unfold zipT at h
 rw[List.getElem?_map,Option.map_eq_some_iff] at h
 obtain⟨p,e,rfl⟩:=h
 rw[List.getElem?_zip_eq_some] at e
 exact⟨_,_,e.1,e.2,rfl⟩
theorem Nk{Γ G}{n:Nat}(g:Γ[25]?=some (Xy n)){M:Z2}{Q:DK}{x y:D}{xs ys:List D}{own:Own}(hl:xs.length=ys.length)(h:∀(i:Nat) a b,xs[i]?=some a→ys[i]?=some b→AL M n a b)
  (lx:∀F:DK,F (.int xs.length) M→bfD K .len [x] M F) (ly:∀F:DK,F (.int ys.length) M→bfD K .len [y] M F) (hz:∀F:Own→List D→Prop,F own (zipT xs ys)→zip2 M x y F) (st:Qg own (zipT xs ys) M) (q:Q (.bl true) M):
  tss ⟨K,Γ,G⟩ noX Tu {nx:=fun _ M=>Q .non M,rt:=Q} [some x,some y,none,none] M:=by
 delta Tu
 walk_at "ev"
 refine lx _ (ly _ ?_)
 walk_at "ev"
 rw[if_neg (by rw[hl];simp)]
 delta Qr
 walk_at "ev"
 rw[Y14]
 refine hz _ ?_
 refine Sd (fun i σ M'=>∃d2 d3,σ=[some x,some y,d2,d3]∧M'=M) ⟨none,none,rfl,rfl⟩ ?_ ?_ ?_
 ·rintro i σ M' _ ⟨d2,d3,rfl,rfl⟩
  exact st
 ·rintro i d σ M' C hd ⟨d2,d3,rfl,rfl⟩ hC
  obtain⟨a,b,ea,eb,rfl⟩:=Zw2 hd
  rw[tg_two]
  delta Qm
  walk_at "ev"
  simp only[g]
  refine⟨_,_,rfl,h i a b ea eb,?_⟩
  try walk_at "ev"
  exact hC _ _ ⟨_,_,rfl,rfl⟩
 ·rintro σ M' ⟨d2,d3,rfl,rfl⟩
  delta Pc
  walk_at "ev"
  exact q
theorem Bm{Γ G}:∀ds M Q Z,Xy 0 ds M Q Z→tss ⟨K,Γ,G⟩ noX b_Lalike {nx:=fun _ M=>Q .non M,rt:=Q} (start0 W7 ds) M:=by
 rintro ds M Q Z ⟨x,y,rfl,⟨rfl,h⟩,q⟩
 exact Pf h q
theorem Z20{Γ G}{n:Nat}(g:Γ[25]?=some (Xy n)):∀ds M Q Z,Xy (n+1) ds M Q Z→tss ⟨K,Γ,G⟩ noX b_Lalike {nx:=fun _ M=>Q .non M,rt:=Q} (start0 W7 ds) M:=by
 rintro ds M Q Z ⟨x,y,rfl,h | ⟨xs,ys,rfl,rfl,hl,h⟩ | ⟨m,k,xs,ys,rfl,rfl,h1,h2,hl,h⟩,q⟩
 ·obtain⟨rfl,h⟩:=h
  exact Pf h q
 ·delta b_Lalike W7
  walk_at "ev"
  delta Wg
  walk_at "ev"
  delta Vn
  walk_at "ev"
  delta S5
  walk_at "ev"
  delta S9
  walk_at "ev"
  exact Nk (own:= .no) g hl h (fun F f=>f) (fun F f=>f) (fun F f=>f) trivial q
 ·have i1:∀{t:Ty} {B:Bool→Prop},isD K M (.ref m) (.ty (Xf t)) B=B (tyLst t):=fun{t B}=>Zj7 h1
  have i2:∀{t:Ty} {B:Bool→Prop},isD K M (.ref k) (.ty (Xf t)) B=B (tyLst t):=fun{t B}=>Zj7 h2
  delta b_Lalike W7
  walk_at "ev"
  simp only[i2]
  walk_at "ev"
  delta Wg
  walk_at "ev"
  simp only[i2]
  walk_at "ev"
  delta Vn
  walk_at "ev"
  simp only[i2]
  walk_at "ev"
  delta S5
  walk_at "ev"
  simp only[i1,i2]
  walk_at "ev"
  delta S9
  walk_at "ev"
  simp only[i1,i2]
  walk_at "ev"
  exact Nk (own:= .two m k) g hl h (fun F f=>Y4 (Z0 h1) f) (fun F f=>Y4 (Z0 h2) f) (fun F f=>⟨xs,ys,Z0 h1,Z0 h2,f⟩) ⟨xs,ys,Z0 h1,Z0 h2,rfl⟩ q
end
mutual
noncomputable def dT:T→Nat
 | .leaf _=>1
 | .home _ _ b=>dTs b+2
 | .cho _ _ _ y n=>max (dTs y) (dTs n)+2
noncomputable def dTs:List T→Nat
 | []=>0
 | t::us=>max (dT t) (dTs us)
end
theorem Opd.fN(o:Opd):fN o.d=true:=by cases o<;>rfl
theorem Zs0{M:Z2}(l:Ln):AL M 1 l.d l.d:=by
 have key:∀xs:List D,(∀x∈xs,fN x=true)→AL M 1 (.tup xs) (.tup xs):=fun xs h=> .inr (.inl ⟨xs,xs,rfl,rfl,rfl,fun i a b e1 e2=>by
  rw[e1] at e2
  cases e2
  exact⟨rfl,h a (List.mem_of_getElem? e1)⟩⟩)
 cases l with
 | cond a s b=>exact key _ (by intro x hx;simp only[List.mem_cons,List.not_mem_nil,or_false] at hx;rcases hx with rfl | rfl | rfl | rfl<;>first | rfl | exact Opd.fN _)
 | sum x a s b=>exact key _ (by intro x hx;simp only[List.mem_cons,List.not_mem_nil,or_false] at hx;rcases hx with rfl | rfl | rfl | rfl | rfl<;>first | rfl | exact Opd.fN _)
 | _=>exact key _ (by intro x hx;simp only[List.mem_cons,List.not_mem_nil,or_false] at hx;rcases hx with rfl | rfl<;>rfl)
mutual
theorem al_T{C C':Nat→Prop}{M:Z2}:∀{t:T} {d e:D},RT C M t d→RT C' M t e→AL M (dT t) d e
 | .leaf l,d,e,h,g=>by
  obtain⟨rfl,_⟩:=h
  obtain⟨rfl,_⟩:=g
  exact Zs0 l
 | .home r n b,d,e,h,g=>by
  obtain⟨c,ds,rfl,_,h1,h2⟩:=h
  obtain⟨c',es,rfl,_,g1,g2⟩:=g
  have hb:AL M (dTs b+1) (.ref c) (.ref c'):= .inr (.inr ⟨c,c',ds,es,rfl,rfl,h1,g1,h2.len.trans g2.len.symm,Z40 h2 g2⟩)
  refine .inr (.inl ⟨_,_,rfl,rfl,rfl,fun i a b e1 e2=>?_⟩)
  match i,e1,e2 with
  | 0,e1,e2=>cases e1;cases e2;exact AL.flat rfl
  | 1,e1,e2=>cases e1;cases e2;exact AL.flat rfl
  | 2,e1,e2=>cases e1;cases e2;exact hb
  | n+3,e1,_=>cases e1
 | .cho x s z y n,d,e,h,g=>by
  obtain⟨c1,c2,d1,d2,rfl,_,_,h1,h2,h3,h4⟩:=h
  obtain⟨c1',c2',d1',d2',rfl,_,_,g1,g2,g3,g4⟩:=g
  have hy:AL M (max (dTs y) (dTs n)+1) (.ref c1) (.ref c1'):= .inr (.inr ⟨c1,c1',d1,d1',rfl,rfl,h1,g1,h2.len.trans g2.len.symm,fun i a b e1 e2=>(Z40 h2 g2 i a b e1 e2).up (Nat.le_max_left _ _)⟩)
  have hn:AL M (max (dTs y) (dTs n)+1) (.ref c2) (.ref c2'):= .inr (.inr ⟨c2,c2',d2,d2',rfl,rfl,h3,g3,h4.len.trans g4.len.symm,fun i a b e1 e2=>(Z40 h4 g4 i a b e1 e2).up (Nat.le_max_right _ _)⟩)
  refine .inr (.inl ⟨_,_,rfl,rfl,rfl,fun i a b e1 e2=>?_⟩)
  match i,e1,e2 with
  | 0,e1,e2=>cases e1;cases e2;exact AL.flat rfl
  | 1,e1,e2=>cases e1;cases e2;exact AL.flat (Opd.fN _)
  | 2,e1,e2=>cases e1;cases e2;exact AL.flat rfl
  | 3,e1,e2=>cases e1;cases e2;exact AL.flat (Opd.fN _)
  | 4,e1,e2=>cases e1;cases e2;exact hy
  | 5,e1,e2=>cases e1;cases e2;exact hn
  | n+6,e1,_=>cases e1
theorem Z40{C C':Nat→Prop}{M:Z2}:∀{us:List T} {ds es:List D},RTs C M us ds→RTs C' M us es→∀(i:Nat) a b,ds[i]?=some a→es[i]?=some b→AL M (dTs us) a b
 | [],ds,es,h,g,i,a,b,e1,e2=>by cases h;cases e1
 | t::us,ds,es,h,g,i,a,b,e1,e2=>by
  obtain⟨d,r,rfl,h1,h2⟩:=h
  obtain⟨e,r',rfl,g1,g2⟩:=g
  match i,e1,e2 with
  | 0,e1,e2=>cases e1;cases e2;exact(al_T h1 g1).up (Nat.le_max_left _ _)
  | i+1,e1,e2=>exact(Z40 h2 g2 i a b (by simpa using e1) (by simpa using e2)).up (Nat.le_max_right _ _)
end
mutual
theorem Y21:∀t:T,okT t=true→dT t≤(noE (fl t)).length∧(fl t).length≤2 * (noE (fl t)).length
 | .leaf l,h=>by
  rw[T6]
  cases l<;>first | (show 1≤1∧1≤2;omega) | cases h
 | .home r n b,h=>by
  obtain⟨h1,h2⟩:=Qw b h
  rw[T5]
  have:noE ((if r then Ln.rnd n else .prt n)::(fls b++[.don]))=(if r then Ln.rnd n else .prt n)::(noE (fls b)++[.don]):=by
   unfold noE
   cases r<;>simp[notE,List.filter_cons]
  rw[this]
  simp only[List.length_cons,List.length_append,List.length_nil]
  show dTs b+2≤_∧_
  omega
 | .cho a s b y [],h=>by
  obtain⟨h1,h2⟩:=Qw y (Bool.and_eq_true_iff.mp h).1
  rw[Vy]
  have:noE (Ln.cond a s b::(fls y++[.don]))=Ln.cond a s b::(noE (fls y)++[.don]):=by
   unfold noE
   simp[notE,List.filter_cons]
  rw[this]
  simp only[List.length_cons,List.length_append,List.length_nil]
  show max (dTs y) 0+2≤_∧_
  omega
 | .cho a s b y (t::us),h=>by
  obtain⟨h0,h0'⟩:=Bool.and_eq_true_iff.mp h
  obtain⟨h1,h2⟩:=Qw y h0
  obtain⟨h3,h4⟩:=Qw (t::us) h0'
  rw[S8]
  have:noE (Ln.cond a s b::(fls y++(.els::fls (t::us)++[.don])))=Ln.cond a s b::(noE (fls y)++(noE (fls (t::us))++[.don])):=by
   unfold noE
   simp[notE,List.filter_cons]
  rw[this]
  simp only[List.length_cons,List.length_append,List.length_nil]
  show max (dTs y) (dTs (t::us))+2≤_∧_
  omega
theorem Qw:∀us:List T,okTs us=true→dTs us≤(noE (fls us)).length∧(fls us).length≤2 * (noE (fls us)).length
 | [],_=>⟨Nat.le_refl _,Nat.le_refl _⟩
 | t::us,h=>by
  obtain⟨h0,h0'⟩:=Bool.and_eq_true_iff.mp h
  obtain⟨h1,h2⟩:=Y21 t h0
  obtain⟨h3,h4⟩:=Qw us h0'
  rw[Yt,Jr,List.length_append,List.length_append]
  show max (dT t) (dTs us)≤_∧_
  omega
end
theorem Za6(ls:List Ln):nums (noE ls)=nums ls:=by
 induction ls with
 | nil=>rfl
 | cons l ls ih=>
  unfold noE at ih ⊢
  cases l<;>simp[notE,List.filter_cons,nums,ih]
theorem Y12(ls:List Ln):∀st,kp st (noE ls)=kp st ls:=by
 induction ls with
 | nil=>intro st;rfl
 | cons l ls ih=>
  intro st
  unfold noE at ih ⊢
  cases l<;>simp[notE,List.filter_cons,kp,ih]
theorem Bj(ls:List Ln):snd (noE ls)=snd ls:=by unfold snd;rw[Za6,Y12]
theorem Fl{ls:List Ln}(h:run [] ls=some []):snd (fls (nest ls))=snd ls:=by rw[←Bj,Qq h,Bj]
mutual
theorem Y20:∀(t:T) (st:List Ln),okT t=true→∃b:Bool,∀r,kp st (fl t++r)=(b&&kp st r)
 | .leaf l,st,h=>by
  rw[T6]
  cases l with
  | sum=>exact⟨true,fun r=>by rw[Bool.true_and];rfl⟩
  | fin=>exact⟨true,fun r=>by rw[Bool.true_and];rfl⟩
  | lve n=>exact⟨_,fun r=>rfl⟩
  | agn n=>exact⟨_,fun r=>rfl⟩
  | _=>cases h
 | .home r n b,st,h=>by
  rw[T5]
  cases r with
  | true=>
   obtain⟨c,hc⟩:=Q4 b (st++[.rnd n]) h
   exact⟨c,fun r=>by
    show kp (st++[.rnd n]) (fls b++[.don]++r)=_
    rw[List.append_assoc,hc]
    show(c&&kp (st++[Ln.rnd n]).dropLast r)=_
    rw[List.dropLast_concat]⟩
  | false=>
   obtain⟨c,hc⟩:=Q4 b (st++[.prt n]) h
   exact⟨c,fun r=>by
    show kp (st++[.prt n]) (fls b++[.don]++r)=_
    rw[List.append_assoc,hc]
    show(c&&kp (st++[Ln.prt n]).dropLast r)=_
    rw[List.dropLast_concat]⟩
 | .cho x s z y [],st,h=>by
  rw[Vy]
  obtain⟨c,hc⟩:=Q4 y (st++[.cond x s z]) (Bool.and_eq_true_iff.mp h).1
  exact⟨c,fun r=>by
   show kp (st++[.cond x s z]) (fls y++[.don]++r)=_
   rw[List.append_assoc,hc]
   show(c&&kp (st++[Ln.cond x s z]).dropLast r)=_
   rw[List.dropLast_concat]⟩
 | .cho x s z y (t::us),st,h=>by
  rw[S8]
  obtain⟨h1,h2⟩:=Bool.and_eq_true_iff.mp h
  obtain⟨c,hc⟩:=Q4 y (st++[.cond x s z]) h1
  obtain⟨e,he⟩:=Q4 (t::us) (st++[.cond x s z]) h2
  exact⟨c&&e,fun r=>by
   show kp (st++[.cond x s z]) (fls y++(.els::fls (t::us)++[.don])++r)=_
   rw[List.append_assoc,hc]
   show(c&&kp (st++[.cond x s z]) (fls (t::us)++[.don]++r))=_
   rw[List.append_assoc,he]
   show(c&&(e&&kp (st++[Ln.cond x s z]).dropLast r))=_
   rw[List.dropLast_concat,Bool.and_assoc]⟩
theorem Q4:∀(us:List T) (st:List Ln),okTs us=true→∃b:Bool,∀r,kp st (fls us++r)=(b&&kp st r)
 | [],st,_=>⟨true,fun r=>by rw[Bool.true_and];rfl⟩
 | t::us,st,h=>by
  obtain⟨h1,h2⟩:=Bool.and_eq_true_iff.mp h
  obtain⟨c,hc⟩:=Y20 t st h1
  obtain⟨e,he⟩:=Q4 us st h2
  exact⟨c&&e,fun r=>by rw[Yt,List.append_assoc,hc,he,Bool.and_assoc]⟩
end
theorem Z75{us vs:List T}(h:okTs us=true)(n:Int):snd (fls (us++ .leaf (.lve n)::vs))=false:=by
 unfold snd
 obtain⟨c,hc⟩:=Q4 us [] h
 rw[Xa,Yt,T6,hc]
 show(_&&(c&&((false || false)&&_)))=false
 simp
theorem Zo4(us:List T):snd (fls (us++[.home true 10001 []]))=false:=by
 unfold snd
 rw[Xa,Zy,List.any_append,show(nums (fls [T.home true 10001 []])).any far=true by decide+kernel]
 simp
def Vk:DSp:=fun ds M Q _=>∃C us r ds' b,ds=[.ref r,.bl b]∧Z4 M r=some ds'∧RTs C M us ds'∧(∀c,C c→c<M.length)∧(fls us).length≤1000∧snd (fls us)=b∧∀M',Kp M M'→Q (.bl true) M'
section
variable{K:PySem.W.Frag}{Γ:List DSp}{G:List D}
theorem Ep(g:Γ[5]?=some Zt):∀ds M Q Z,Vk ds M Q Z→tss ⟨K,Γ,G⟩ noX b_Ltold_so {nx:=fun _ M=>Q .non M,rt:=Q} (start0 Vp ds) M:=by
 rintro ds M Q Z ⟨C,us,r,ds',b,rfl,hr,rt,hC,hz,rfl,q⟩
 delta b_Ltold_so Vp
 walk_at "ev"
 simp only[g]
 refine⟨C,us,r,ds',rfl,hr,rt,hC,hz,fun M' k=>?_⟩
 walk_at "ev"
 simpa using q M' k
theorem RTs.split{C:Nat→Prop}{M:Z2}:∀{us:List T} {ds:List D} (k:Nat),RTs C M us ds→RTs C M (us.take k) (ds.take k)∧RTs C M (us.drop k) (ds.drop k)
 | us,ds,0,h=>⟨rfl,h⟩
 | [],ds,k+1,h=>by cases h;exact⟨rfl,rfl⟩
 | t::us,ds,k+1,h=>by
  obtain⟨d,r,rfl,h1,h2⟩:=h
  obtain⟨i1,i2⟩:=RTs.split k h2
  exact⟨⟨d,r.take k,rfl,h1,i1⟩,i2⟩
theorem Y45(gm:Γ[7]?=some X5)(gt:Γ[26]?=some Vk){C:Nat→Prop}{us:List T}{M:Z2}{a h r lr:Nat}{w:D}{Q:DK}(hs:Scr M a)(F:Fm C M h us r)(ha:a<h)(hz:(fls us).length≤400)(q:∀M',Q (.bl true) M'):
  tss ⟨K,Γ,G⟩ noX G0 {nx:=fun _ M=>Q .non M,rt:=Q} [some (.ref a),some (.ref lr),some w,some (.bl (snd (fls us))),some (.ref r),none] M:=by
 obtain⟨⟨ds,hr,rt⟩,hc,hn,hhr⟩:=F
 have dl:=rt.len
 have fl1:=Sc us
 have ok:=rt.ok
 have hC:∀c,C c→c<M.length:=fun c h=>(hc c h).2
 delta G0
 walk_at "ev"
 simp only[gm]
 refine⟨a,933,rfl,hs,by decide,fun v hv=>?_⟩
 walk_at "ev"
 refine⟨Zi (by decide) (by decide),Y4 (Z0 hr) ?_⟩
 walk_at "ev"
 obtain⟨j,hj,ej⟩:∃j:Nat,j≤ds.length∧qmod (qdiv (v:Int) 8) ((ds.length:Int)+1)=j:=by
  rw[qm (by omega)]
  have h1:=Int.emod_nonneg (qdiv (v:Int) 8) (show(ds.length:Int)+1≠0 by omega)
  have h2:=Int.emod_lt_of_pos (qdiv (v:Int) 8) (show(0:Int)< (ds.length:Int)+1 by omega)
  exact⟨(qdiv (v:Int) 8 % ((ds.length:Int)+1)).toNat,by omega,by omega⟩
 rw[ej]
 refine⟨by omega,Za (Z0 hr),a,934,rfl,hs,by decide,fun u hu=>?_⟩
 walk_at "ev"
 refine⟨Z1 (by decide),_,j,rfl,hr,hj,Zd (by omega),?_⟩
 simp only[gt]
 have lt:=Zc (Z0 hr)
 have nr:∀{c:Nat},C c→c≠r:=fun h z=>hn (z ▸ h)
 have kc1:∀x:Cell,∀c,C c→(M.set r x)[c]?=M[c]?:=fun x c h=>Xe (a:=r) fun z=>nr h z.symm
 obtain⟨s1,s2⟩:=rt.split j
 have rt1:∀x:Cell,RTs C (M.set r x) (us.take j++ .leaf (.lve (qmod (u:Int) 10000))::us.drop j) (ds.take j++ .tup [.str "leave",.int (qmod (u:Int) 10000)]::ds.drop j):=fun x=>
  (s1.keep (fun _ h=>h) (kc1 x)).app ⟨_,_,rfl,⟨rfl,rfl,rfl⟩,s2.keep (fun _ h=>h) (kc1 x)⟩
 have ok1:okTs (us.take j)=true:=s1.ok
 have z1:(fls (us.take j++ .leaf (.lve (qmod (u:Int) 10000))::us.drop j)).length≤1000:=by
  have:=congrArg (fun x=>(fls x).length) (List.take_append_drop j us)
  simp only[Xa,List.length_append] at this
  rw[Xa,Yt,T6]
  simp only[List.length_append,List.length_singleton]
  omega
 refine⟨C,_,r,_,false,rfl,Z9 lt,rt1 _,fun c h=>by rw[List.length_set];exact hC c h,z1,Z75 ok1 _,fun M2 k2=>?_⟩
 walk_at "ev"
 have lt2:r<M2.length:=Nat.lt_of_lt_of_le lt (by have:=k2.len;rwa[List.length_set] at this)
 have e2:Z4 M2 r=some (ds.take j++ .tup [.str "leave",.int (qmod (u:Int) 10000)]::ds.drop j):=k2.pW (Z9 lt)
 have kc2:∀c,C c→M2[c]?=M[c]?:=fun c h=>(k2.at' c (fun z=>z) (by rw[List.length_set];exact hC c h)).trans (kc1 _ c h)
 have hs2:Scr M2 a:=by
  have:Ks (·=r) M M2:=((Ks.refl M).set (F:=(·=r)) (.inl rfl)).trans (k2.mono fun _ _ z=>z.elim)
  exact hs.ks this (by show ¬a=r;omega)
 delta Z43
 walk_at "ev"
 have er:(ds.take j++D.tup [.str "leave",.int (qmod (u:Int) 10000)]::ds.drop j).eraseIdx j=ds:=by
  rw[List.eraseIdx_append_of_length_le (by rw[List.length_take];omega)]
  rw[List.length_take,show j - min j ds.length=0 by omega,List.eraseIdx_cons_zero,List.take_append_drop]
 refine⟨Za (Z0 e2),_,.tup [.str "leave",.int (qmod (u:Int) 10000)],j,rfl,e2,?_,?_⟩
 ·rw[List.getElem?_append_right (by rw[List.length_take];omega),List.length_take,show j - min j ds.length=0 by omega]
  rfl
 rw[er]
 have e3:Z4 (M2.set r (.lst ds)) r=some ds:=Z9 lt2
 have kc3:∀c,C c→(M2.set r (.lst ds))[c]?=M[c]?:=fun c h=>(Xe (a:=r) fun z=>nr h z.symm).trans (kc2 c h)
 have l3:(M2.set r (.lst ds)).length=M2.length:=List.length_set ..
 have hC3:∀c,C c→c<M2.length:=fun c h=>Nat.lt_of_lt_of_le (hC c h) (by have:=k2.len;rwa[List.length_set] at this)
 refine⟨Za (Z0 e3),Z1 (by decide),Z1 (by decide),_,Z8 e3,Zd (by omega),?_⟩
 simp only[gt]
 have lt4:r< (M2.set r (.lst ds)++[Cell.lst []]).length:=by rw[List.length_append,l3];omega
 have rne:r≠(M2.set r (.lst ds)).length:=by omega
 generalize hM4:M2.set r (.lst ds)++[Cell.lst []]=M4 at lt4 ⊢
 have q4:Z4 M4 (M2.set r (.lst ds)).length=some []:=by rw[←hM4];exact Z6 _ _ []
 have kc4:∀c,C c→M4[c]?=M[c]?:=fun c h=>by rw[←hM4,Q7 (by rw[l3];exact hC3 c h)];exact kc3 c h
 have hC4:∀c,C c→c<M4.length:=fun c h=>by rw[←hM4,List.length_append,l3];have:=hC3 c h;omega
 let C':Nat→Prop:=fun c=>C c∨c=(M2.set r (.lst ds)).length
 have kc5:∀(x:Cell) c,C c→(M4.set r x)[c]?=M[c]?:=fun x c h=>(Xe (a:=r) fun z=>nr h z.symm).trans (kc4 c h)
 have rt5:∀x:Cell,RTs C' (M4.set r x) (us++[.home true 10001 []]) (ds++[.tup [.str "round",.int 10001,.ref (M2.set r (.lst ds)).length]]):=fun x=>
  (rt.keep (fun _ h=> .inl h) (kc5 x)).app (.one ⟨_,[],rfl,.inr rfl,by rw[Zb rne];exact q4,rfl⟩)
 have z5:(fls (us++[T.home true 10001 []])).length≤1000:=by
  rw[Xa,List.length_append,show(fls [T.home true 10001 []]).length=2 from rfl]
  omega
 refine⟨C',_,r,_,false,rfl,Z9 lt4,rt5 _,fun c h=>?_,z5,Zo4 us,fun M5 k5=>?_⟩
 ·rw[List.length_set]
  rcases h with h | h
  ·exact hC4 c h
  ·rw[h,←hM4,List.length_append,List.length_singleton]
   omega
 walk_at "ev"
 have e5:Z4 M5 r=some (ds++[.tup [.str "round",.int 10001,.ref (M2.set r (.lst ds)).length]]):=k5.pW (Z9 lt4)
 have kc6:∀c,C c→M5[c]?=M[c]?:=fun c h=>(k5.at' c (fun z=>z) (by rw[List.length_set];exact hC4 c h)).trans (kc5 _ c h)
 have l5:M4.length≤M5.length:=by have:=k5.len;rwa[List.length_set] at this
 delta Z57
 walk_at "ev"
 refine⟨Za (Z0 e5),_,.tup [.str "round",.int 10001,.ref (M2.set r (.lst ds)).length],e5,by rw[List.length_append,List.length_singleton,Nat.add_sub_cancel,List.getElem?_concat_length],?_⟩
 rw[List.dropLast_concat]
 simp only[gt]
 have lt5:=Zc (Z0 e5)
 have rt6:RTs C (M5.set r (.lst ds)) us ds:=rt.keep (fun _ h=>h) fun c h=>(Xe (a:=r) fun z=>nr h z.symm).trans (kc6 c h)
 refine⟨C,us,r,ds,_,rfl,Z9 lt5,rt6,fun c h=>by rw[List.length_set];exact Nat.lt_of_lt_of_le (hC4 c h) l5,by omega,rfl,fun M6 k6=>?_⟩
 walk_at "ev"
 refine⟨Z1 (by decide),C,[],M6.length,[],true,rfl,Z6 _ _ [],rfl,fun c h=>?_,by decide,by decide+kernel,fun M7 _=>q M7⟩
 rw[List.length_append]
 have:=hC4 c h
 have:=k6.len
 rw[List.length_set] at this
 omega
theorem Y03(gm:Γ[7]?=some X5)(gt:Γ[26]?=some Vk)(gs:Γ[21]?=some X6)(gn:Γ[20]?=some Yu)(ga:Γ[25]?=some (Xy 121)){ls:List Ln}{M:Z2}{a lr:Nat}{w:D}{Q:DK}(hs:Scr M a)(hr:Zf M lr=some (ls.map Ln.d))(hl:ls.length≤120)(hrun:run [] ls=some [])(q:∀M',Q (.bl true) M'):
  tss ⟨K,Γ,G⟩ noX G8 {nx:=fun _ M=>Q .non M,rt:=Q} [some (.ref a),some (.ref lr),some w,none,none,none] M:=by
 have ha:a<M.length:=by obtain⟨ns,e,_⟩:=hs;exact Zc e
 delta G8
 walk_at "ev"
 simp only[gs]
 refine⟨lr,ls,rfl,hr,by omega,by rw[show dp 0 ls=some 0 from Zu6 (st:=[]) hrun];rfl,fun M1 k1=>?_⟩
 try walk_at "ev"
 simp only[gn]
 refine⟨lr,ls,rfl,k1.pL hr,by omega,hrun,fun C M2 r k2 F2=>?_⟩
 try walk_at "ev"
 simp only[gt,ga]
 obtain⟨⟨ds,e2,rt⟩,c2,n2,m2⟩:=id F2
 have ok:=rt.ok
 obtain⟨d1,d2⟩:=Qw _ ok
 rw[Qq hrun] at d1 d2
 have d3:(noE ls).length≤ls.length:=List.length_filter_le _ _
 have hC:∀c,C c→c<M2.length:=fun c h=>(c2 c h).2
 refine⟨C,nest ls,r,ds,snd ls,rfl,e2,rt,hC,by omega,Fl hrun,fun M3 k3=>?_⟩
 try walk_at "ev"
 refine⟨lr,ls,rfl,k3.pL (k2.pL (k1.pL hr)),by omega,hrun,fun C4 M4 r4 k4 F4=>?_⟩
 try walk_at "ev"
 obtain⟨⟨es,e4,rt4⟩,c4,n4,m4⟩:=F4
 have k24:=k3.trans k4
 have rt':RTs C M4 (nest ls) ds:=rt.keep (fun _ h=>h) (k24.cl hC)
 have e2':=k24.pW e2
 refine⟨_,_,rfl,AL.up (n:=dTs (nest ls)+1) (.inr (.inr ⟨r,r4,ds,es,rfl,rfl,e2',e4,rt.len.trans rt4.len.symm,Z40 rt' rt4⟩)) (by omega),?_⟩
 try walk_at "ev"
 rw[←Fl hrun]
 refine Y45 gm gt (h:=M1.length) (C:=C) ((hs.ks k1 fun z=>z).ks (k2.trans k24) fun z=>z) ⟨⟨ds,e2',rt'⟩,fun c h=>⟨(c2 c h).1,Nat.lt_of_lt_of_le (hC c h) k24.len⟩,n2,m2⟩ (Nat.lt_of_lt_of_le ha k1.len) (by omega) q
theorem Y36(gm:Γ[7]?=some X5)(gl:Γ[19]?=some Xj)(gc:Γ[24]?=some Xs)(gt:Γ[26]?=some Vk)(gs:Γ[21]?=some X6)(gn:Γ[20]?=some Yu)(ga:Γ[25]?=some (Xy 121)):∀ds M Q Z,Er ds M Q Z→tss ⟨K,Γ,G⟩ noX b_law {nx:=fun _ M=>Q .non M,rt:=Q} (start0 Zb3 ds) M:=by
 rintro ds M Q Z ⟨ns,rfl,rfl,hn,_,q⟩
 have hs:Scr [.frz (ns.map .int)] 0:=⟨ns,rfl,hn⟩
 generalize [Cell.frz (ns.map .int)]=M at hs ⊢
 obtain⟨ms,hm,_⟩:=id hs
 delta b_law Zb3
 walk_at "ev"
 refine Y4 hm ?_
 walk_at "ev"
 simp only[gl]
 rw[List.length_map]
 obtain⟨many,h60,em⟩:∃many:Nat,many≤60∧(if (if (60:Int)< (ms.length:Int) then(60:Int) else(ms.length:Int)) >1 then(if (60:Int)< (ms.length:Int) then(60:Int) else(ms.length:Int)) else 1)=many:=by
  refine⟨(if (if (60:Int)< (ms.length:Int) then(60:Int) else(ms.length:Int)) >1 then(if (60:Int)< (ms.length:Int) then(60:Int) else(ms.length:Int)) else 1).toNat,?_,?_⟩
  ·split<;>split at * <;>omega
  ·rw[Int.toNat_of_nonneg]
   split<;>split at * <;>omega
 rw[em]
 refine⟨0,many,rfl,hs,h60,fun ls M1 r1 hrun hl k1 e1 m1=>?_⟩
 try walk_at "ev"
 simp only[gm,gc]
 have hs1:Scr M1 0:=hs.ks k1 fun z=>z
 refine⟨0,930,rfl,hs1,by decide,fun v hv=>?_⟩
 walk_at "ev"
 refine⟨Zi (by decide) (by decide),?_⟩
 generalize qmod (qdiv (v:Int) 8) 4=w
 have five:∀(ls:List Ln) (M2:Z2) (r2:Nat),run [] ls=some []→ls.length≤120→Scr M2 0→Zf M2 r2=some (ls.map Ln.d)→tss ⟨K,Γ,G⟩ noX Jq {nx:=fun _ M=>Q .non M,rt:=Q} [some (.ref 0),some (.ref r2),some (.int w),none,none,none] M2:=by
  intro ls M2 r2 hrun hl hs2 e2
  delta Jq
  walk_at "ev"
  simp only[gm,gc]
  split
  ·refine⟨0,932,rfl,hs2,by decide,fun v hv=>⟨0,r2,v,ls,rfl,hs2,e2,by omega,fun ms M3 r3 h3 k3 e3=>?_⟩⟩
   exact Y03 gm gt gs gn ga (hs2.ks k3 fun z=>z) e3 (by have:=congrArg List.length h3;rw[List.length_map,List.length_map] at this;omega) (E7 h3 hrun) q
  ·exact Y03 gm gt gs gn ga hs2 e2 hl hrun q
 split
 ·refine⟨0,931,rfl,hs1,by decide,fun v hv=>⟨0,r1,v,ls,rfl,hs1,Z0 e1,by omega,fun ms M3 r3 h3 k3 e3=>?_⟩⟩
  exact five ms M3 r3 (E7 h3 hrun) (by have:=congrArg List.length h3;rw[List.length_map,List.length_map] at this;omega) (hs1.ks k3 fun z=>z) e3
 ·exact five ls M1 r1 hrun hl hs1 (Z0 e1)
end
set_option maxHeartbeats 0 in
theorem Y02{P:Program}{w:World}{K:PySem.W.Frag}{mg:Str→Option Value}{base:Heap}{t:Adr}(T:Tx K mg t):FnOk P w K mg base (CX1 P w) 149 t.a_law t.d_law ["_law_script"] (spF K Er):=by
 have PZ:Prg P w K mg base ⟨K,[bot,bot,bot,bot,bot,bot,bot,bot,bot,bot,bot,bot,bot,bot,bot,bot,bot,bot,bot,bot,bot,bot,bot,bot,bot,bot,bot,bot],[.gtup [.str "else"],.gtup [.str "done"],.gtup [.str "choice",.str "round",.str "part"],.int 9999]⟩ FN GN BN 0:=Prg.zero (ents T) rfl (by intro sp h;simp only[List.mem_cons,List.not_mem_nil,or_false,or_self] at h;exact h) (fun g x d h1 h2=>match g,h1,h2 with | 0,h1,h2=>by cases h1;cases h2;obtain⟨a,e,r⟩:=T.q_ELSE;exact⟨.ref a,_,e,rfl,fun w hw=>T3.mpr ⟨a,_,rfl,.inr (by rw[hw];exact r),(RDs.cons (Zw.mpr rfl) (RDs.nil w))⟩⟩ | 1,h1,h2=>by cases h1;cases h2;obtain⟨a,e,r⟩:=T.q_DONE;exact⟨.ref a,_,e,rfl,fun w hw=>T3.mpr ⟨a,_,rfl,.inr (by rw[hw];exact r),(RDs.cons (Zw.mpr rfl) (RDs.nil w))⟩⟩ | 2,h1,h2=>by cases h1;cases h2;obtain⟨a,e,r⟩:=T.q_OPENERS;exact⟨.ref a,_,e,rfl,fun w hw=>T3.mpr ⟨a,_,rfl,.inr (by rw[hw];exact r),(RDs.cons (Zw.mpr rfl) (RDs.cons (Zw.mpr rfl) (RDs.cons (Zw.mpr rfl) (RDs.nil w))))⟩⟩ | 3,h1,h2=>by cases h1;cases h2;obtain⟨tk,e⟩:=T.q_MOST_NUMBER;exact⟨.int 9999,_,e,⟨tk,rfl⟩,fun w _=>Zg.mpr rfl⟩ | n+4,h1,h2=>by cases h2) (blts T)
 have P0:=PZ.up (show 0≤0 by decide)
 have F0:=fn0 P0 T.F_line_of Ea Z45 (sp:=Zh) (by rintro _ _ _ _ ⟨_,_,_,rfl,_⟩;rfl) Br
 have P1:Prg P w K mg base ⟨K,[Zh,bot,bot,bot,bot,bot,bot,bot,bot,bot,bot,bot,bot,bot,bot,bot,bot,bot,bot,bot,bot,bot,bot,bot,bot,bot,bot,bot],[.gtup [.str "else"],.gtup [.str "done"],.gtup [.str "choice",.str "round",.str "part"],.int 9999]⟩ FN GN BN 1:=P0.add 0 (x:="line_of") rfl F0 (Nat.le_refl _) (Nat.le_succ _) T.g_line_of T.k_line_of T.b_line_of
 have F1:=fn0 P1 T.F_told_within Qk Pz (sp:=Zx) (by rintro _ _ _ _ ⟨_,_,_,rfl,_⟩;rfl) (Pt rfl rfl)
 have P2:Prg P w K mg base ⟨K,[Zh,Zx,bot,bot,bot,bot,bot,bot,bot,bot,bot,bot,bot,bot,bot,bot,bot,bot,bot,bot,bot,bot,bot,bot,bot,bot,bot,bot],[.gtup [.str "else"],.gtup [.str "done"],.gtup [.str "choice",.str "round",.str "part"],.int 9999]⟩ FN GN BN 2:=P1.add 1 (x:="told_within") rfl F1 (Nat.le_refl _) (Nat.le_succ _) T.g_told_within T.k_told_within T.b_told_within
 have F2:=fn0 P2 T.F_lines_of Jp C6 (sp:=Ze) (by rintro _ _ _ _ ⟨_,_,_,_,rfl,_⟩;rfl) (Ei rfl rfl)
 have P3:Prg P w K mg base ⟨K,[Zh,Zx,Ze,bot,bot,bot,bot,bot,bot,bot,bot,bot,bot,bot,bot,bot,bot,bot,bot,bot,bot,bot,bot,bot,bot,bot,bot,bot],[.gtup [.str "else"],.gtup [.str "done"],.gtup [.str "choice",.str "round",.str "part"],.int 9999]⟩ FN GN BN 3:=P2.add 2 (x:="lines_of") rfl F2 (Nat.le_refl _) (Nat.le_succ _) T.g_lines_of T.k_lines_of T.b_lines_of
 have F3:=fn0 P3 T.F_is_within Nj Jw (sp:=Zk) (by rintro _ _ _ _ ⟨_,_,_,rfl,_⟩;rfl) Gg
 have P4:Prg P w K mg base ⟨K,[Zh,Zx,Ze,Zk,bot,bot,bot,bot,bot,bot,bot,bot,bot,bot,bot,bot,bot,bot,bot,bot,bot,bot,bot,bot,bot,bot,bot,bot],[.gtup [.str "else"],.gtup [.str "done"],.gtup [.str "choice",.str "round",.str "part"],.int 9999]⟩ FN GN BN 4:=P3.add 3 (x:="is_within") rfl F3 (Nat.le_refl _) (Nat.le_succ _) T.g_is_within T.k_is_within T.b_is_within
 have F4:=fn0 P4 T.F_keep_within Qh O9 (sp:=Y7) (by rintro _ _ _ _ ⟨_,_,rfl,_⟩;rfl) (N7 rfl rfl rfl)
 have P5:Prg P w K mg base ⟨K,[Zh,Zx,Ze,Zk,Y7,bot,bot,bot,bot,bot,bot,bot,bot,bot,bot,bot,bot,bot,bot,bot,bot,bot,bot,bot,bot,bot,bot,bot],[.gtup [.str "else"],.gtup [.str "done"],.gtup [.str "choice",.str "round",.str "part"],.int 9999]⟩ FN GN BN 5:=P4.add 4 (x:="keep_within") rfl F4 (Nat.le_refl _) (Nat.le_succ _) T.g_keep_within T.k_keep_within T.b_keep_within
 have F5:=fn0 P5 T.F_sound Zg8 Zq8 (sp:=Zt) (by rintro _ _ _ _ ⟨_,_,_,_,rfl,_⟩;rfl) (Zq7 rfl rfl rfl)
 have P6:Prg P w K mg base ⟨K,[Zh,Zx,Ze,Zk,Y7,Zt,bot,bot,bot,bot,bot,bot,bot,bot,bot,bot,bot,bot,bot,bot,bot,bot,bot,bot,bot,bot,bot,bot],[.gtup [.str "else"],.gtup [.str "done"],.gtup [.str "choice",.str "round",.str "part"],.int 9999]⟩ FN GN BN 6:=P5.add 5 (x:="sound") rfl F5 (Nat.le_refl _) (Nat.le_succ _) T.g_sound T.k_sound T.b_sound
 have F6:=fn0 P6 T.F_Lraw Zp6 Zu1 (sp:=Xd) (by rintro _ _ _ _ ⟨_,_,rfl,_⟩;rfl) Zu9
 have P7:Prg P w K mg base ⟨K,[Zh,Zx,Ze,Zk,Y7,Zt,Xd,bot,bot,bot,bot,bot,bot,bot,bot,bot,bot,bot,bot,bot,bot,bot,bot,bot,bot,bot,bot,bot],[.gtup [.str "else"],.gtup [.str "done"],.gtup [.str "choice",.str "round",.str "part"],.int 9999]⟩ FN GN BN 7:=P6.add 6 (x:="_law_raw") rfl F6 (Nat.le_refl _) (Nat.le_succ _) T.g_Lraw T.k_Lraw T.b_Lraw
 have F7:=fn0 P7 T.F_Lmix Zm4 Zx7 (sp:=X5) (by rintro _ _ _ _ ⟨_,_,rfl,_⟩;rfl) (Y09 rfl)
 have P8:Prg P w K mg base ⟨K,[Zh,Zx,Ze,Zk,Y7,Zt,Xd,X5,bot,bot,bot,bot,bot,bot,bot,bot,bot,bot,bot,bot,bot,bot,bot,bot,bot,bot,bot,bot],[.gtup [.str "else"],.gtup [.str "done"],.gtup [.str "choice",.str "round",.str "part"],.int 9999]⟩ FN GN BN 8:=P7.add 7 (x:="_law_mix") rfl F7 (Nat.le_refl _) (Nat.le_succ _) T.g_Lmix T.k_Lmix T.b_Lmix
 have F8:=fn0 P8 T.F_Lkept Za2 Zo8 (sp:=Yc) (by rintro _ _ _ _ ⟨rfl,_⟩;rfl) Zl0
 have P9:Prg P w K mg base ⟨K,[Zh,Zx,Ze,Zk,Y7,Zt,Xd,X5,Yc,bot,bot,bot,bot,bot,bot,bot,bot,bot,bot,bot,bot,bot,bot,bot,bot,bot,bot,bot],[.gtup [.str "else"],.gtup [.str "done"],.gtup [.str "choice",.str "round",.str "part"],.int 9999]⟩ FN GN BN 9:=P8.add 8 (x:="_law_kept") rfl F8 (Nat.le_refl _) (Nat.le_succ _) T.g_Lkept T.k_Lkept T.b_Lkept
 have F9:=fn0 P9 T.F_Lsign Ze6 Zk8 (sp:=Yj) (by rintro _ _ _ _ ⟨_,_,rfl,_⟩;rfl) Zp2
 have P10:Prg P w K mg base ⟨K,[Zh,Zx,Ze,Zk,Y7,Zt,Xd,X5,Yc,Yj,bot,bot,bot,bot,bot,bot,bot,bot,bot,bot,bot,bot,bot,bot,bot,bot,bot,bot],[.gtup [.str "else"],.gtup [.str "done"],.gtup [.str "choice",.str "round",.str "part"],.int 9999]⟩ FN GN BN 10:=P9.add 9 (x:="_law_sign") rfl F9 (Nat.le_refl _) (Nat.le_succ _) T.g_Lsign T.k_Lsign T.b_Lsign
 have F10:=fn0 P10 T.F_Lword Zf0 Zp5 (sp:=Yr) (by rintro _ _ _ _ ⟨_,_,rfl,_⟩;rfl) (Zl2 rfl)
 have P11:Prg P w K mg base ⟨K,[Zh,Zx,Ze,Zk,Y7,Zt,Xd,X5,Yc,Yj,Yr,bot,bot,bot,bot,bot,bot,bot,bot,bot,bot,bot,bot,bot,bot,bot,bot,bot],[.gtup [.str "else"],.gtup [.str "done"],.gtup [.str "choice",.str "round",.str "part"],.int 9999]⟩ FN GN BN 11:=P10.add 10 (x:="_law_word") rfl F10 (Nat.le_refl _) (Nat.le_succ _) T.g_Lword T.k_Lword T.b_Lword
 have F11:=fn0 P11 T.F_Lnames Z76 Zg3 (sp:=Y6) (by rintro _ _ _ _ ⟨_,rfl,_⟩;rfl) (Ze3 rfl rfl rfl rfl)
 have P12:Prg P w K mg base ⟨K,[Zh,Zx,Ze,Zk,Y7,Zt,Xd,X5,Yc,Yj,Yr,Y6,bot,bot,bot,bot,bot,bot,bot,bot,bot,bot,bot,bot,bot,bot,bot,bot],[.gtup [.str "else"],.gtup [.str "done"],.gtup [.str "choice",.str "round",.str "part"],.int 9999]⟩ FN GN BN 12:=P11.add 11 (x:="_law_names") rfl F11 (Nat.le_refl _) (Nat.le_succ _) T.g_Lnames T.k_Lnames T.b_Lnames
 have F12:=fn0 P12 T.F_Loperand Jo Cz (sp:=Zo) (by rintro _ _ _ _ ⟨_,_,_,_,rfl,_⟩;rfl) (Eb rfl)
 have P13:Prg P w K mg base ⟨K,[Zh,Zx,Ze,Zk,Y7,Zt,Xd,X5,Yc,Yj,Yr,Y6,Zo,bot,bot,bot,bot,bot,bot,bot,bot,bot,bot,bot,bot,bot,bot,bot],[.gtup [.str "else"],.gtup [.str "done"],.gtup [.str "choice",.str "round",.str "part"],.int 9999]⟩ FN GN BN 13:=P12.add 12 (x:="_law_operand") rfl F12 (Nat.le_refl _) (Nat.le_succ _) T.g_Loperand T.k_Loperand T.b_Loperand
 have F13:=fn0 P13 T.F_Lbegins En Z07 (sp:=Zl) (by rintro _ _ _ _ ⟨_,rfl,_⟩;rfl) Z63
 have P14:Prg P w K mg base ⟨K,[Zh,Zx,Ze,Zk,Y7,Zt,Xd,X5,Yc,Yj,Yr,Y6,Zo,Zl,bot,bot,bot,bot,bot,bot,bot,bot,bot,bot,bot,bot,bot,bot],[.gtup [.str "else"],.gtup [.str "done"],.gtup [.str "choice",.str "round",.str "part"],.int 9999]⟩ FN GN BN 14:=P13.add 13 (x:="_law_begins") rfl F13 (Nat.le_refl _) (Nat.le_succ _) T.g_Lbegins T.k_Lbegins T.b_Lbegins
 have F14:=fn0 P14 T.F_Ldeed Za3 Zs4 (sp:=Yq) (by rintro _ _ _ _ ⟨_,_,_,_,rfl,_⟩;rfl) (Zr8 rfl)
 have P15:Prg P w K mg base ⟨K,[Zh,Zx,Ze,Zk,Y7,Zt,Xd,X5,Yc,Yj,Yr,Y6,Zo,Zl,Yq,bot,bot,bot,bot,bot,bot,bot,bot,bot,bot,bot,bot,bot],[.gtup [.str "else"],.gtup [.str "done"],.gtup [.str "choice",.str "round",.str "part"],.int 9999]⟩ FN GN BN 15:=P14.add 14 (x:="_law_deed") rfl F14 (Nat.le_refl _) (Nat.le_succ _) T.g_Ldeed T.k_Ldeed T.b_Ldeed
 have F15:=fn0 P15 T.F_Lgoes Ze7 Zl5 (sp:=Yv) (by rintro _ _ _ _ ⟨_,_,_,rfl,_⟩;rfl) Zo7
 have P16:Prg P w K mg base ⟨K,[Zh,Zx,Ze,Zk,Y7,Zt,Xd,X5,Yc,Yj,Yr,Y6,Zo,Zl,Yq,Yv,bot,bot,bot,bot,bot,bot,bot,bot,bot,bot,bot,bot],[.gtup [.str "else"],.gtup [.str "done"],.gtup [.str "choice",.str "round",.str "part"],.int 9999]⟩ FN GN BN 16:=P15.add 15 (x:="_law_goes") rfl F15 (Nat.le_refl _) (Nat.le_succ _) T.g_Lgoes T.k_Lgoes T.b_Lgoes
 have F16:=fn0 P16 T.F_Lfirst Ba Z90 (sp:=Yn) (by rintro _ _ _ _ ⟨_,rfl,_⟩;rfl) (Zf2 rfl)
 have P17:Prg P w K mg base ⟨K,[Zh,Zx,Ze,Zk,Y7,Zt,Xd,X5,Yc,Yj,Yr,Y6,Zo,Zl,Yq,Yv,Yn,bot,bot,bot,bot,bot,bot,bot,bot,bot,bot,bot],[.gtup [.str "else"],.gtup [.str "done"],.gtup [.str "choice",.str "round",.str "part"],.int 9999]⟩ FN GN BN 17:=P16.add 16 (x:="_law_first") rfl F16 (Nat.le_refl _) (Nat.le_succ _) T.g_Lfirst T.k_Lfirst T.b_Lfirst
 have F17:=fn0 P17 T.F_Lclose Z53 Zg6 (sp:=Ym) (by rintro _ _ _ _ ⟨_,_,_,_,rfl,_⟩;rfl) Za0
 have P18:Prg P w K mg base ⟨K,[Zh,Zx,Ze,Zk,Y7,Zt,Xd,X5,Yc,Yj,Yr,Y6,Zo,Zl,Yq,Yv,Yn,Ym,bot,bot,bot,bot,bot,bot,bot,bot,bot,bot],[.gtup [.str "else"],.gtup [.str "done"],.gtup [.str "choice",.str "round",.str "part"],.int 9999]⟩ FN GN BN 18:=P17.add 17 (x:="_law_close") rfl F17 (Nat.le_refl _) (Nat.le_succ _) T.g_Lclose T.k_Lclose T.b_Lclose
 have F18:=fn0 P18 T.F_Lstep Zh0 Zs8 (sp:=Wc) (by rintro _ _ _ _ ⟨_,_,_,_,_,rfl,_⟩;rfl) (Zm8 rfl rfl rfl rfl rfl rfl)
 have P19:Prg P w K mg base ⟨K,[Zh,Zx,Ze,Zk,Y7,Zt,Xd,X5,Yc,Yj,Yr,Y6,Zo,Zl,Yq,Yv,Yn,Ym,Wc,bot,bot,bot,bot,bot,bot,bot,bot,bot],[.gtup [.str "else"],.gtup [.str "done"],.gtup [.str "choice",.str "round",.str "part"],.int 9999]⟩ FN GN BN 19:=P18.add 18 (x:="_law_step") rfl F18 (Nat.le_refl _) (Nat.le_succ _) T.g_Lstep T.k_Lstep T.b_Lstep
 have F19:=fn0 P19 T.F_Llines Z81 Zf3 (sp:=Xj) (by rintro _ _ _ _ ⟨_,_,rfl,_⟩;rfl) (Zd8 rfl rfl)
 have P20:Prg P w K mg base ⟨K,[Zh,Zx,Ze,Zk,Y7,Zt,Xd,X5,Yc,Yj,Yr,Y6,Zo,Zl,Yq,Yv,Yn,Ym,Wc,Xj,bot,bot,bot,bot,bot,bot,bot,bot],[.gtup [.str "else"],.gtup [.str "done"],.gtup [.str "choice",.str "round",.str "part"],.int 9999]⟩ FN GN BN 20:=P19.add 19 (x:="_law_lines") rfl F19 (Nat.le_refl _) (Nat.le_succ _) T.g_Llines T.k_Llines T.b_Llines
 have F20:=fn0 P20 T.F_Lnested E9 Z36 (sp:=Yu) (by rintro _ _ _ _ ⟨_,_,rfl,_⟩;rfl) (Bv rfl)
 have P21:Prg P w K mg base ⟨K,[Zh,Zx,Ze,Zk,Y7,Zt,Xd,X5,Yc,Yj,Yr,Y6,Zo,Zl,Yq,Yv,Yn,Ym,Wc,Xj,Yu,bot,bot,bot,bot,bot,bot,bot],[.gtup [.str "else"],.gtup [.str "done"],.gtup [.str "choice",.str "round",.str "part"],.int 9999]⟩ FN GN BN 21:=P20.add 20 (x:="_law_nested") rfl F20 (Nat.le_refl _) (Nat.le_succ _) T.g_Lnested T.k_Lnested T.b_Lnested
 have F21:=fn0 P21 T.F_Lsound Bb Zd4 (sp:=X6) (by rintro _ _ _ _ ⟨_,_,rfl,_⟩;rfl) (Zc9 rfl)
 have P22:Prg P w K mg base ⟨K,[Zh,Zx,Ze,Zk,Y7,Zt,Xd,X5,Yc,Yj,Yr,Y6,Zo,Zl,Yq,Yv,Yn,Ym,Wc,Xj,Yu,X6,bot,bot,bot,bot,bot,bot],[.gtup [.str "else"],.gtup [.str "done"],.gtup [.str "choice",.str "round",.str "part"],.int 9999]⟩ FN GN BN 22:=P21.add 21 (x:="_law_sound") rfl F21 (Nat.le_refl _) (Nat.le_succ _) T.g_Lsound T.k_Lsound T.b_Lsound
 have F22:=fn0 P22 T.F_Lhas_number Qi O2 (sp:=Px) (by rintro _ _ _ _ ⟨_,rfl,_⟩;rfl) O1
 have P23:Prg P w K mg base ⟨K,[Zh,Zx,Ze,Zk,Y7,Zt,Xd,X5,Yc,Yj,Yr,Y6,Zo,Zl,Yq,Yv,Yn,Ym,Wc,Xj,Yu,X6,Px,bot,bot,bot,bot,bot],[.gtup [.str "else"],.gtup [.str "done"],.gtup [.str "choice",.str "round",.str "part"],.int 9999]⟩ FN GN BN 23:=P22.add 22 (x:="_law_has_number") rfl F22 (Nat.le_refl _) (Nat.le_succ _) T.g_Lhas_number T.k_Lhas_number T.b_Lhas_number
 have F23:=fn0 P23 T.F_Lnumber_by Pq Nb (sp:=Yw) (by rintro _ _ _ _ ⟨_,_,_,_,rfl,_⟩;rfl) (Jm rfl)
 have P24:Prg P w K mg base ⟨K,[Zh,Zx,Ze,Zk,Y7,Zt,Xd,X5,Yc,Yj,Yr,Y6,Zo,Zl,Yq,Yv,Yn,Ym,Wc,Xj,Yu,X6,Px,Yw,bot,bot,bot,bot],[.gtup [.str "else"],.gtup [.str "done"],.gtup [.str "choice",.str "round",.str "part"],.int 9999]⟩ FN GN BN 24:=P23.add 23 (x:="_law_number_by") rfl F23 (Nat.le_refl _) (Nat.le_succ _) T.g_Lnumber_by T.k_Lnumber_by T.b_Lnumber_by
 have F24:=fn0 P24 T.F_Lchanged G2 Ey (sp:=Xs) (by rintro _ _ _ _ ⟨_,_,_,_,rfl,_⟩;rfl) (Cq rfl rfl)
 have P25:Prg P w K mg base ⟨K,[Zh,Zx,Ze,Zk,Y7,Zt,Xd,X5,Yc,Yj,Yr,Y6,Zo,Zl,Yq,Yv,Yn,Ym,Wc,Xj,Yu,X6,Px,Yw,Xs,bot,bot,bot],[.gtup [.str "else"],.gtup [.str "done"],.gtup [.str "choice",.str "round",.str "part"],.int 9999]⟩ FN GN BN 25:=P24.add 24 (x:="_law_changed") rfl F24 (Nat.le_refl _) (Nat.le_succ _) T.g_Lchanged T.k_Lchanged T.b_Lchanged
 have A25:∀n:Nat,Prg P w K mg base ⟨K,[Zh,Zx,Ze,Zk,Y7,Zt,Xd,X5,Yc,Yj,Yr,Y6,Zo,Zl,Yq,Yv,Yn,Ym,Wc,Xj,Yu,X6,Px,Yw,Xs,(Xy n),bot,bot],[.gtup [.str "else"],.gtup [.str "done"],.gtup [.str "choice",.str "round",.str "part"],.int 9999]⟩ FN GN BN (25+n+1):=by
  intro n
  induction n with
  | zero=>exact P25.add 25 (x:="_law_alike") rfl (fn0 P25 T.F_Lalike Nq Fb (sp:=Xy 0) (by rintro _ _ _ _ ⟨_,_,rfl,_⟩;rfl) Bm) (Nat.le_refl _) (Nat.le_succ _) T.g_Lalike T.k_Lalike T.b_Lalike
  | succ n ih=>exact ih.add 25 (x:="_law_alike") rfl (fn0 ih T.F_Lalike Nq Fb (sp:=Xy (n+1)) (by rintro _ _ _ _ ⟨_,_,rfl,_⟩;rfl) (Z20 rfl)) (Nat.le_refl _) (Nat.le_succ _) T.g_Lalike T.k_Lalike T.b_Lalike
 have P26:Prg P w K mg base ⟨K,[Zh,Zx,Ze,Zk,Y7,Zt,Xd,X5,Yc,Yj,Yr,Y6,Zo,Zl,Yq,Yv,Yn,Ym,Wc,Xj,Yu,X6,Px,Yw,Xs,(Xy 121),bot,bot],[.gtup [.str "else"],.gtup [.str "done"],.gtup [.str "choice",.str "round",.str "part"],.int 9999]⟩ FN GN BN 147:=A25 121
 have F26:=fn0 P26 T.F_Ltold_so Gf Em (sp:=Vk) (by rintro _ _ _ _ ⟨_,_,_,_,_,rfl,_⟩;rfl) (Ep rfl)
 have P27:Prg P w K mg base ⟨K,[Zh,Zx,Ze,Zk,Y7,Zt,Xd,X5,Yc,Yj,Yr,Y6,Zo,Zl,Yq,Yv,Yn,Ym,Wc,Xj,Yu,X6,Px,Yw,Xs,(Xy 121),Vk,bot],[.gtup [.str "else"],.gtup [.str "done"],.gtup [.str "choice",.str "round",.str "part"],.int 9999]⟩ FN GN BN 148:=P26.add 26 (x:="_law_told_so") rfl F26 (Nat.le_refl _) (Nat.le_succ _) T.g_Ltold_so T.k_Ltold_so T.b_Ltold_so
 have F27:=fn0 P27 T.F_law Zz9 Y28 (sp:=Er) (by rintro _ _ _ _ ⟨_,rfl,_⟩;rfl) (Y36 rfl rfl rfl rfl rfl rfl rfl)
 exact F27
theorem Zo6{l:PySem.W.OpenLaw}{w:World}{fa f:Addr}{K:PySem.W.Frag}{mg:Str→Option Value}(hfa:mg "law"=some (.ref fa))(h:∃t:Adr,Tx K mg t∧t.a_law=f∧∀(s:Shared) (v:Value),BindsTo s t.d_law ⟨[v],[]⟩ [("_law_script",v)])
  :∃fd:FuncData,(∀(s:Shared) (v:Value),BindsTo s fd ⟨[v],[]⟩ [("_law_script",v)])∧∀base:Heap,K.In base→base.Ns mainGlobals mg→FnOk l.prog w K mg base (CX1 l.prog w) 149 fa fd ["_law_script"] (spF K Er):=by
 obtain⟨t,T,e,hb⟩:=h
 have e2:=hfa.symm.trans T.g_law
 cases e2
 exact⟨t.d_law,hb,fun base _ _=>Y02 T⟩
end K51
namespace Hand
open PySem PySem.Spec PyProof.Rows L2 L3 U K51
noncomputable def kf(n:Str)(i:Nat)(dV kV dc pm:Value)(an:Option Addr)(cd ct:Value):Obj:=⟨.type "function",none,.func (PySem.W.fnOf n n (Zn (top i)) (Z5 (top i)) (Z3 (top i)) dV kV dc pm an cd ct),#[]⟩
noncomputable def kg(n:Str)(i:Nat)(m:Str)(t c:Nat):Obj:=kf n i .none .none .none (.str m t) none (.ref c) .none
noncomputable def kc(n:Str)(t:Nat)(l a:Int)(r:Nat)(x y:Int)(z:Nat):Obj:=⟨.type "code",none,.fields #[.str n t,.str n (t+1),.str "/claim/cut.py" (t+2),.int l 0,.int a 0,.int 0 0,.int 0 0,.int 3 0,.ref r,.bool true,.int x 0,.ref (r+1),.none,.ref (r+2),.ref (r+3),.ref (r+4),.int y 0,.int l 0,.str "/claim/cut.py" z],#[]⟩
noncomputable def ke(P:Params)(x:Str)(t:Nat)(v:Value):DictEntry:=⟨PyData.keyHash P x,.str x t,v⟩
noncomputable abbrev kd:Value:= .type "dict"
noncomputable abbrev kR(a:Nat):Value:= .ref a
noncomputable abbrev kS(x:Str)(t:Nat):Value:= .str x t
noncomputable def KH(P:Params):PySem.W.Frag:=(nat_lit 2,⟨.none,none,.dict #[] 0,#[]⟩)::(nat_lit 3,⟨kd,none,.dict #[ke P "__name__" 165 (kS "law_unjump_k51_sound" 248),ke P "__doc__" 166 .none,ke P "__package__" 167 .none,ke P "__loader__" 168 (.builtin "__main__.__loader__#opaque"),ke P "__spec__" 169 .none,ke P "__annotations__" 170 (kR 6),ke P "__builtins__" 171 (kR 4),ke P "__file__" 173 (kS "/claim/cut.py" 172),ke P "__cached__" 174 .none,ke P "ELSE" 190 (kR 15),ke P "DONE" 192 (kR 16),ke P "OPENERS" 196 (kR 17),ke P "MOST_NUMBER" 198 (.int 9999 197),ke P "sound" 204 (kR 22),ke P "keep_within" 213 (kR 29),ke P "is_within" 221 (kR 36),ke P "lines_of" 231 (kR 43),ke P "line_of" 238 (kR 50),ke P "told_within" 247 (kR 57),ke P "_law_raw" 257 (kR 64),ke P "_law_mix" 266 (kR 71),ke P "_law_kept" 272 (kR 78),ke P "_law_sign" 280 (kR 85),ke P "_law_word" 290 (kR 92),ke P "_law_names" 304 (kR 99),ke P "_law_operand" 315 (kR 106),ke P "_law_begins" 322 (kR 113),ke P "_law_deed" 336 (kR 120),ke P "_law_goes" 342 (kR 125),ke P "_law_first" 350 (kR 132),ke P "_law_close" 359 (kR 139),ke P "_law_step" 372 (kR 146),ke P "_law_lines" 384 (kR 153),ke P "_law_nested" 396 (kR 160),ke P "_law_sound" 406 (kR 167),ke P "_law_has_number" 413 (kR 174),ke P "_law_number_by" 419 (kR 179),ke P "_law_changed" 425 (kR 184),ke P "_law_alike" 435 (kR 191),ke P "_law_told_so" 444 (kR 198),ke P "law" 456 (kR 205)] 41,#[]⟩)::(nat_lit 15,⟨(.type "tuple"),none,.seq #[(.str "else" 189)] 0,#[]⟩)::(nat_lit 16,⟨(.type "tuple"),none,.seq #[(.str "done" 191)] 0,#[]⟩)::(nat_lit 17,⟨(.type "tuple"),none,.seq #[(.str "choice" 193),(.str "round" 194),(.str "part" 195)] 0,#[]⟩)::(nat_lit 21,⟨(.type "code"),none,.fields #[(.str "sound" 199),(.str "sound" 200),(.str "/claim/cut.py" 201),(.int 6 0),(.int 1 0),(.int 0 0),(.int 0 0),(.int 3 0),(.ref 18),(.bool true),(.int 181 0),(.ref 19),.none,.none,.none,(.ref 20),(.int 202 0),(.int 6 0),(.str "/claim/cut.py" 203)],#[]⟩)::(nat_lit 22,kg "sound" 5 "unjump.forms" 187 21)::(nat_lit 28,kc "keep_within" 205 14 1 23 181 211 212)::(nat_lit 29,kg "keep_within" 6 "unjump.forms" 187 28)::(nat_lit 35,kc "is_within" 214 24 2 30 181 219 220)::(nat_lit 36,kg "is_within" 7 "unjump.forms" 187 35)::(nat_lit 42,kc "lines_of" 222 28 1 37 181 229 230)::(nat_lit 43,kg "lines_of" 8 "unjump.forms" 187 42)::(nat_lit 49,kc "line_of" 232 36 1 44 181 236 237)::(nat_lit 50,kg "line_of" 9 "unjump.forms" 187 49)::(nat_lit 56,kc "told_within" 239 42 1 51 181 245 246)::(nat_lit 57,kg "told_within" 10 "unjump.forms" 187 56)::(nat_lit 63,kc "_law_raw" 250 52 2 58 181 255 256)::(nat_lit 64,kg "_law_raw" 12 "law_unjump_k51_sound" 248 63)::(nat_lit 70,kc "_law_mix" 258 56 2 65 181 264 265)::(nat_lit 71,kg "_law_mix" 13 "law_unjump_k51_sound" 248 70)::(nat_lit 77,kc "_law_kept" 267 61 0 72 181 270 271)::(nat_lit 78,kg "_law_kept" 14 "law_unjump_k51_sound" 248 77)::(nat_lit 84,kc "_law_sign" 273 63 2 79 181 278 279)::(nat_lit 85,kg "_law_sign" 15 "law_unjump_k51_sound" 248 84)::(nat_lit 91,kc "_law_word" 281 67 2 86 181 288 289)::(nat_lit 92,kg "_law_word" 16 "law_unjump_k51_sound" 248 91)::(nat_lit 98,kc "_law_names" 291 73 1 93 181 302 303)::(nat_lit 99,kg "_law_names" 17 "law_unjump_k51_sound" 248 98)::(nat_lit 105,kc "_law_operand" 305 89 4 100 181 313 314)::(nat_lit 106,kg "_law_operand" 18 "law_unjump_k51_sound" 248 105)::(nat_lit 112,kc "_law_begins" 316 100 1 107 181 320 321)::(nat_lit 113,kg "_law_begins" 19 "law_unjump_k51_sound" 248 112)::(nat_lit 119,kc "_law_deed" 323 102 4 114 181 334 335)::(nat_lit 120,kg "_law_deed" 20 "law_unjump_k51_sound" 248 119)::(nat_lit 124,⟨(.type "code"),none,.fields #[(.str "_law_goes" 337),(.str "_law_goes" 338),(.str "/claim/cut.py" 339),(.int 111 0),(.int 2 0),(.int 0 0),(.int 0 0),(.int 3 0),(.ref 121),(.bool true),(.int 181 0),(.ref 122),.none,.none,.none,(.ref 123),(.int 340 0),(.int 111 0),(.str "/claim/cut.py" 341)],#[]⟩)::(nat_lit 125,kg "_law_goes" 21 "law_unjump_k51_sound" 248 124)::(nat_lit 131,kc "_law_first" 343 119 1 126 181 348 349)::(nat_lit 132,kg "_law_first" 22 "law_unjump_k51_sound" 248 131)::(nat_lit 138,kc "_law_close" 351 122 2 133 181 357 358)::(nat_lit 139,kg "_law_close" 23 "law_unjump_k51_sound" 248 138)::(nat_lit 145,kc "_law_step" 360 128 4 140 181 370 371)::(nat_lit 146,kg "_law_step" 24 "law_unjump_k51_sound" 248 145)::(nat_lit 152,kc "_law_lines" 373 147 2 147 181 382 383)::(nat_lit 153,kg "_law_lines" 25 "law_unjump_k51_sound" 248 152)::(nat_lit 159,kc "_law_nested" 385 157 1 154 181 394 395)::(nat_lit 160,kg "_law_nested" 26 "law_unjump_k51_sound" 248 159)::(nat_lit 166,kc "_law_sound" 397 176 1 161 181 404 405)::(nat_lit 167,kg "_law_sound" 27 "law_unjump_k51_sound" 248 166)::(nat_lit 173,kc "_law_has_number" 407 193 1 168 181 411 412)::(nat_lit 174,kg "_law_has_number" 28 "law_unjump_k51_sound" 248 173)::(nat_lit 178,⟨(.type "code"),none,.fields #[(.str "_law_number_by" 414),(.str "_law_number_by" 415),(.str "/claim/cut.py" 416),(.int 195 0),(.int 3 0),(.int 0 0),(.int 0 0),(.int 3 0),(.ref 175),(.bool true),(.int 181 0),(.ref 176),.none,.none,.none,(.ref 177),(.int 417 0),(.int 195 0),(.str "/claim/cut.py" 418)],#[]⟩)::(nat_lit 179,kg "_law_number_by" 29 "law_unjump_k51_sound" 248 178)::(nat_lit 183,⟨(.type "code"),none,.fields #[(.str "_law_changed" 420),(.str "_law_changed" 421),(.str "/claim/cut.py" 422),(.int 201 0),(.int 3 0),(.int 0 0),(.int 0 0),(.int 3 0),(.ref 180),(.bool true),(.int 181 0),(.ref 181),.none,.none,.none,(.ref 182),(.int 423 0),(.int 201 0),(.str "/claim/cut.py" 424)],#[]⟩)::(nat_lit 184,kg "_law_changed" 30 "law_unjump_k51_sound" 248 183)::(nat_lit 190,kc "_law_alike" 426 220 2 185 181 433 434)::(nat_lit 191,kg "_law_alike" 31 "law_unjump_k51_sound" 248 190)::(nat_lit 197,kc "_law_told_so" 436 237 2 192 181 442 443)::(nat_lit 198,kg "_law_told_so" 32 "law_unjump_k51_sound" 248 197)::(nat_lit 204,kc "law" 445 240 1 199 181 454 455)::(nat_lit 205,kg "law" 33 "law_unjump_k51_sound" 248 204)::[]
noncomputable def qH:Program:={PySem.Challenge.pw_unjump_k51_sound with main:={PySem.Challenge.pw_unjump_k51_sound.main with body:=[top 33]}}
noncomputable def lH:List Str:="ELSE"::"DONE"::"OPENERS"::"MOST_NUMBER"::"sound"::"keep_within"::"is_within"::"lines_of"::"line_of"::"told_within"::"_law_raw"::"_law_mix"::"_law_kept"::"_law_sign"::"_law_word"::"_law_names"::"_law_operand"::"_law_begins"::"_law_deed"::"_law_goes"::"_law_first"::"_law_close"::"_law_step"::"_law_lines"::"_law_nested"::"_law_sound"::"_law_has_number"::"_law_number_by"::"_law_changed"::"_law_alike"::"_law_told_so"::[]
noncomputable def aH:List Addr:=2::3::15::16::17::21::22::28::29::35::36::42::43::49::50::56::57::63::64::70::71::77::78::84::85::91::92::98::99::105::106::112::113::119::120::124::125::131::132::138::139::145::146::152::153::159::160::166::167::173::174::178::179::183::184::190::191::197::198::204::205::[]
theorem eH(P:Params):aH=(KH P).map (·.1):=by kernel_rfl
set_option maxHeartbeats 0 in
theorem hlH:PySem.W.LeftO PySem.Challenge.pw_unjump_k51_sound qH lH (fun s=>PySem.W.xlAt qH [] s&&PySem.W.recOk [] s) (PySem.W.Hook.obs (PySem.W.kHook KH aH eH)) (PySem.W.Hook.val (PySem.W.kHook KH aH eH)) 1978:=by intro w;kernel_rfl
end Hand
open PySem PySem.W PyProof.Rows
set_option maxRecDepth 100000 in
set_option maxHeartbeats 0 in
theorem PySem.Challenge.cw_unjump_k51_sound_holds : PySem.Challenge.rw_unjump_k51_sound.Holds := by
 w_on;o_law;refine holds_open (q:=Hand.qH) (loose:=Hand.lH) (Xt:=fun s=>xlAt Hand.qH [] s&&recOk [] s) (XP:=XL Hand.qH []) (Yf:=Hook.obs (kHook Hand.KH Hand.aH Hand.eH)) (Ya:=Hook.val (kHook Hand.KH Hand.aH Hand.eH)) (YP:=Hook.says (kHook Hand.KH Hand.aH Hand.eH)) (N:=1978) Hand.hlH (Hook.of _) (Hook.keeps _) (fun s e=>xl_of s (Bool.and_eq_true_iff.mp e).1) XL.keeps (by rfl) (by rfl) (by rfl) (fun s e=>recFacts_of (Bool.and_eq_true_iff.mp e).2) (by rfl) (by first | assumption | decide+kernel) (by decide+kernel) ⟨rfl,rfl,rfl,rfl,rfl,by decide+kernel⟩ ?hw ?hc;(case hw=>w_witness2)
 k_fill
 refine U.Zf7 (l:=PySem.Challenge.rw_unjump_k51_sound) (k:=149) (x:="_law_script") rfl rfl ⟨rfl,by decide,by decide⟩ (fun w h Y=>PySem.W.kIn_of Y) ?F
 case F=>
  intro w mg fa h KX G hmg
  refine' K51.Zo6 hmg (K51.Y41 KX G ?a0 ?l0 ?c0 ?k0 ?a1 ?l1 ?c1 ?k1 ?a2 ?l2 ?c2 ?k2 ?a3 ?l3 ?c3 ?k3 ?a4 ?l4 ?c4 ?k4 ?a5 ?l5 ?c5 ?k5 ?a6 ?l6 ?c6 ?k6 ?a7 ?l7 ?c7 ?k7 ?a8 ?l8 ?c8 ?k8 ?a9 ?l9 ?c9 ?k9 ?a10 ?l10 ?c10 ?k10 ?a11 ?l11 ?c11 ?k11 ?a12 ?l12 ?c12 ?k12 ?a13 ?l13 ?c13 ?k13 ?a14 ?l14 ?c14 ?k14 ?a15 ?l15 ?c15 ?k15 ?a16 ?l16 ?c16 ?k16 ?a17 ?l17 ?c17 ?k17 ?a18 ?l18 ?c18 ?k18 ?a19 ?l19 ?c19 ?k19 ?a20 ?l20 ?c20 ?k20 ?a21 ?l21 ?c21 ?k21 ?a22 ?l22 ?c22 ?k22 ?a23 ?l23 ?c23 ?k23 ?a24 ?l24 ?c24 ?k24 ?a25 ?l25 ?c25 ?k25 ?a26 ?l26 ?c26 ?k26 ?a27 ?l27 ?c27 ?k27 ?z0 ?z1 ?z2 ?z3 ?z4 ?z5 ?z6 ?z7 ?z8 ?z9 ?z10 ?z11 ?z12 ?z13 ?u0 ?v0 ?u1 ?v1 ?u2 ?v2 ?q0)
  (case a0=>k_is);(case l0=>k_is);(case c0=>k_is);(case k0=>k_is)
  (case a1=>k_is);(case l1=>k_is);(case c1=>k_is);(case k1=>k_is)
  (case a2=>k_is);(case l2=>k_is);(case c2=>k_is);(case k2=>k_is)
  (case a3=>k_is);(case l3=>k_is);(case c3=>k_is);(case k3=>k_is)
  (case a4=>k_is);(case l4=>k_is);(case c4=>k_is);(case k4=>k_is)
  (case a5=>k_is);(case l5=>k_is);(case c5=>k_is);(case k5=>k_is)
  (case a6=>k_is);(case l6=>k_is);(case c6=>k_is);(case k6=>k_is)
  (case a7=>k_is);(case l7=>k_is);(case c7=>k_is);(case k7=>k_is)
  (case a8=>k_is);(case l8=>k_is);(case c8=>k_is);(case k8=>k_is)
  (case a9=>k_is);(case l9=>k_is);(case c9=>k_is);(case k9=>k_is)
  (case a10=>k_is);(case l10=>k_is);(case c10=>k_is);(case k10=>k_is)
  (case a11=>k_is);(case l11=>k_is);(case c11=>k_is);(case k11=>k_is)
  (case a12=>k_is);(case l12=>k_is);(case c12=>k_is);(case k12=>k_is)
  (case a13=>k_is);(case l13=>k_is);(case c13=>k_is);(case k13=>k_is)
  (case a14=>k_is);(case l14=>k_is);(case c14=>k_is);(case k14=>k_is)
  (case a15=>k_is);(case l15=>k_is);(case c15=>k_is);(case k15=>k_is)
  (case a16=>k_is);(case l16=>k_is);(case c16=>k_is);(case k16=>k_is)
  (case a17=>k_is);(case l17=>k_is);(case c17=>k_is);(case k17=>k_is)
  (case a18=>k_is);(case l18=>k_is);(case c18=>k_is);(case k18=>k_is)
  (case a19=>k_is);(case l19=>k_is);(case c19=>k_is);(case k19=>k_is)
  (case a20=>k_is);(case l20=>k_is);(case c20=>k_is);(case k20=>k_is)
  (case a21=>k_is);(case l21=>k_is);(case c21=>k_is);(case k21=>k_is)
  (case a22=>k_is);(case l22=>k_is);(case c22=>k_is);(case k22=>k_is)
  (case a23=>k_is);(case l23=>k_is);(case c23=>k_is);(case k23=>k_is)
  (case a24=>k_is);(case l24=>k_is);(case c24=>k_is);(case k24=>k_is)
  (case a25=>k_is);(case l25=>k_is);(case c25=>k_is);(case k25=>k_is)
  (case a26=>k_is);(case l26=>k_is);(case c26=>k_is);(case k26=>k_is)
  (case a27=>k_is);(case l27=>k_is);(case c27=>k_is);(case k27=>k_is)
  (case z0=>k_is);(case z1=>k_is);(case z2=>k_is);(case z3=>k_is);(case z4=>k_is);(case z5=>k_is);(case z6=>k_is);(case z7=>k_is);(case z8=>k_is);(case z9=>k_is);(case z10=>k_is);(case z11=>k_is);(case z12=>k_is);(case z13=>k_is)
  (case u0=>k_is);(case v0=>k_is);(case u1=>k_is);(case v1=>k_is);(case u2=>k_is);(case v2=>k_is);(case q0=>k_is)
