import PyProof.Rows.All
import Wide.All
import OpenK.AllK
import Wide.FinOn
import Lean
import PyProof.EqAt
import PyProof.EqKinds
import PyProof.TupleCall
import PyProof.CompFree
import PyProof.StationsW
import PyProof.ExcClass3
import PyProof.Commute
import OpenK.KGet
import OpenK.KMeth
import PyProof.ExcArgs
import PyProof.ZipIter
import PyProof.ListNew
import PyProof.EnumMake
import PyProof.EnumStmt
import KE.KRevSl
import PyProof.WalkInts
import PyProof.Rows.MinMaxN
import PyProof.AttrMissHeap
import PyProof.DictList
import PyProof.DictUpdate
import KE.KDictOf
import PyProof.DictWalks
import PyProof.Conv_int_bool
import PySem.Challenge.RW_unjump_k07_run_by_rows
set_option Elab.async false
set_option linter.all false
set_option maxRecDepth 100000
namespace L2
open PySem PySem.Spec PyProof.Rows
abbrev Key:=Sum Int Str
def keyIs:Key→Value→Bool
 | .inl k,v=>Value.isInt k v
 | .inr x,v=>Value.isStrOf x v
def keyH(w:World):Key→Int
 | .inl k=>hashInt k
 | .inr x=>hashStr w x
theorem keyIs_shape:∀{k:Key} {v:Value},keyIs k v=true→(∃i t,k=Sum.inl i∧v=Value.int i t)∨(∃x t,k=Sum.inr x∧v=Value.str x t)
 | .inl i,v,h=>by
  obtain⟨t,e⟩:=Value.isInt_shape (k:=i) (v:=v) h
  exact .inl ⟨i,t,rfl,e⟩
 | .inr x,v,h=>by
  obtain⟨t,e⟩:=Value.isStrOf_shape (x:=x) (v:=v) h
  exact .inr ⟨x,t,rfl,e⟩
theorem keyIs_int(i:Int)(t:Tok):keyIs (.inl i) (.int i t)=true:=by simp[keyIs,Value.isInt]
theorem keyIs_str(x:Str)(t:Tok):keyIs (.inr x) (.str x t)=true:=by simp[keyIs,Value.isStrOf]
theorem key_ll(a b:Int):decide ((Sum.inl a:Key)=Sum.inl b)=(a==b):=by
 by_cases e:a=b
 ·subst e;simp
 ·have h:¬(Sum.inl a:Key)=Sum.inl b:=fun q=>e (Sum.inl.inj q)
  rw[decide_eq_false h]
  exact(beq_eq_false_iff_ne.mpr e).symm
theorem key_rr(a b:Str):decide ((Sum.inr a:Key)=Sum.inr b)=decide (a=b):=by
 by_cases e:a=b
 ·subst e;simp
 ·have h:¬(Sum.inr a:Key)=Sum.inr b:=fun q=>e (Sum.inr.inj q)
  rw[decide_eq_false h,decide_eq_false e]
theorem key_lr(a:Int)(b:Str):decide ((Sum.inl a:Key)=Sum.inr b)=false:=decide_eq_false (fun q=>nomatch q)
theorem key_rl(a:Str)(b:Int):decide ((Sum.inr a:Key)=Sum.inl b)=false:=decide_eq_false (fun q=>nomatch q)
def mixKind(prog:Program)(w:World):PySem.KeyKind prog w Key where
 is:=keyIs
 hash:=keyH w
 inj:=fun v a b ha hb=>by
  rcases keyIs_shape ha with⟨i,t,rfl,rfl⟩ | ⟨x,t,rfl,rfl⟩
  ·rcases keyIs_shape hb with⟨j,u,rfl,e⟩ | ⟨y,u,rfl,e⟩
   ·injection e with e1 _;rw[e1]
   ·exact nomatch e
  ·rcases keyIs_shape hb with⟨j,u,rfl,e⟩ | ⟨y,u,rfl,e⟩
   ·exact nomatch e
   ·injection e with e1 _;rw[e1]
 byValue:=fun k v h=>by
  rcases keyIs_shape h with⟨i,t,rfl,rfl⟩ | ⟨x,t,rfl,rfl⟩<;>rfl
 pyHash:=fun hv h=>by
  rcases keyIs_shape hv with⟨i,t,rfl,rfl⟩ | ⟨x,t,rfl,rfl⟩
  ·exact wpAny_pyHash_int h
  ·exact wpAny_pyHash_str h
 eqBool:=fun hu hv h=>by
  rcases keyIs_shape hu with⟨i,t,rfl,rfl⟩ | ⟨x,t,rfl,rfl⟩
  ·rcases keyIs_shape hv with⟨j,u,rfl,rfl⟩ | ⟨y,u,rfl,rfl⟩
   ·rw[key_ll] at h;exact wpAny_eqBool_int h
   ·rw[key_lr] at h;exact SeqAt.EqAt.int_str i t y u _ _ _ _ h
  ·rcases keyIs_shape hv with⟨j,u,rfl,rfl⟩ | ⟨y,u,rfl,rfl⟩
   ·rw[key_rl] at h;exact SeqAt.EqAt.str_int x t j u _ _ _ _ h
   ·rw[key_rr] at h;exact wpAny_eqBool_str h
 «strs»:=fun k x t v h=>by
  rcases keyIs_shape h with⟨i,u,rfl,e⟩ | ⟨y,u,rfl,e⟩
  ·exact nomatch e
  ·injection e with e1 _
   subst e1
   cases v<;>rfl
theorem mixKind_int(prog:Program)(w:World)(i:Int)(t:Tok):(mixKind prog w).is (.inl i) (.int i t)=true:=keyIs_int i t
theorem mixKind_str(prog:Program)(w:World)(x:Str)(t:Tok):(mixKind prog w).is (.inr x) (.str x t)=true:=keyIs_str x t
inductive V where
 | non | bl (b:Bool) | int (i:Int) | str (x:Str) | byt (b:Array UInt8) | flt (b:UInt64) | ref (a:Addr) | ty (n:String)
 deriving DecidableEq
def RelV:V→Value→Prop
 | .non,u=>u=Value.none
 | .bl b,u=>u=Value.bool b
 | .int i,u=>∃t,u=Value.int i t
 | .str x,u=>∃t,u=Value.str x t
 | .byt b,u=>∃t,u=Value.bytes b t
 | .flt b,u=>∃t,u=Value.float b t
 | .ref a,u=>u=Value.ref a
 | .ty n,u=>u=Value.type n
abbrev Vals:List V→List Value→Prop:=Paired RelV
theorem Vals.length{xs:List V}{us:List Value}(r:Vals xs us):xs.length=us.length:=Paired.length r
theorem Vals.get:∀{xs:List V} {us:List Value} {i:Nat} {x:V},Vals xs us→xs[i]?=some x→∃u,us[i]?=some u∧RelV x u
 | _,_,_,_,.nil,e=>by simp at e
 | _,_,0,_,.cons r _,e=>by simp at e;subst e;exact⟨_,rfl,r⟩
 | _,_,i+1,x,.cons _ t,e=>by
  obtain⟨u,h1,h2⟩:=Vals.get (i:=i) (x:=x) t (by simpa using e)
  exact⟨u,by simpa using h1,h2⟩
theorem Vals.set{x:V}{u:Value}(r:RelV x u):∀{xs:List V} {us:List Value} (i:Nat),Vals xs us→Vals (xs.set i x) (us.set i u)
 | _,_,_,.nil=> .nil
 | _,_,0,.cons _ t=> .cons r t
 | _,_,i+1,.cons q t=> .cons q (Vals.set r i t)
theorem Vals.append:∀{xs ys:List V} {us ws:List Value},Vals xs us→Vals ys ws→Vals (xs++ys) (us++ws)
 | _,_,_,_,.nil,s=>s
 | _,_,_,_,.cons r t,s=> .cons r (Vals.append t s)
theorem Vals.take:∀{xs:List V} {us:List Value} (n:Nat),Vals xs us→Vals (xs.take n) (us.take n)
 | _,_,0,_=> .nil
 | _,_,_+1,.nil=> .nil
 | _,_,n+1,.cons r t=> .cons r (Vals.take n t)
theorem Vals.drop:∀{xs:List V} {us:List Value} (n:Nat),Vals xs us→Vals (xs.drop n) (us.drop n)
 | _,_,0,r=>r
 | _,_,_+1,.nil=> .nil
 | _,_,n+1,.cons _ t=>Vals.drop n t
def RelO:Option V→Option Value→Prop
 | some v,some u=>RelV v u
 | none,none=>True
 | _,_=>False
def KV{κ:Type}:List (κ×V)→List (κ×Value)→Prop:=Paired fun(p:κ×V) (q:κ×Value)=>p.1=q.1∧RelV p.2 q.2
def kV:Key→V
 | .inl i=> .int i
 | .inr x=> .str x
inductive HO where
 | lst (xs:List V)
 | tup (xs:List V)
 | dK (kvs:List (Key×V)) | dT (kvs:List (List Key×V))
 | set (S:Int→Bool) (n:Nat)
 | ins (C dx:Addr) (fs:List (Str×V))
 | own (x:Addr)
 | xd (fs:List (Str×V))
 | met (f x:Addr)
 | rng (lo hi:Int)
 | frz (o:Obj) (u:HO)
 | tbl (ps:Array Value)
 | ext (φ:Heap→Prop)
abbrev Hp:=Addr→Option HO
def upd(H:Hp)(a:Addr)(o:HO):Hp:=fun b=>if b=a then some o else H b
theorem upd_same{H:Hp}{a:Addr}{o:HO}:upd H a o a=some o:=by unfold upd;rw[if_pos rfl]
theorem upd_ne{H:Hp}{a b:Addr}{o:HO}(h:b≠a):upd H a o b=H b:=by unfold upd;rw[if_neg h]
theorem ne_of{H:Hp}{a b:Addr}{o u:HO}(h:H a=some o)(h':H b=some u)(d:o≠u):a≠b:=by
 intro e;subst e;rw[h] at h';exact d (Option.some.inj h')
theorem ne_of_none{H:Hp}{a b:Addr}{o:HO}(h:H a=some o)(h':H b=none):a≠b:=by
 intro e;subst e;rw[h] at h';cases h'
section
variable(P:Program)(w:World)
def ObjOk(H:Hp)(h:Heap)(a:Addr):HO→Prop
 | .lst xs=>xs.length≤sizeLine∧∃(its:List Value) (n:Nat),Vals xs its∧h.get? a=some {cls:= .type "list",data:= .seq its.toArray n}
 | .tup xs=>xs.length≤sizeLine∧∃its:List Value,Vals xs its∧IsTup h a its.toArray
 | .dK kvs=>kvs.length≤sizeLine∧(a==sysModules)=false∧∃vs,KV kvs vs∧h.DictOf (mixKind P w) a vs
 | .dT kvs=>kvs.length≤sizeLine∧(a==sysModules)=false∧∃xs:List (List Key×Addr×Value),
   Paired (fun(p:List Key×V) (q:List Key×Addr×Value)=>p.1=q.1∧H q.2.1=some (.tup (p.1.map kV))∧RelV p.2 q.2.2) kvs xs∧
   ∃o es ep,h.get? a=some o∧o.ExactDict∧o.data= .dict es ep∧es.toList=xs.map (entryOfKey (tupleKind (mixKind P w)))∧(xs.map (·.1)).Nodup
 | .set S n=>h.SetOf (intKind P w) a S n
 | .ins C dx fs=>H dx=some (.own a)∧fs.length≤1000∧dx≠a∧h.get? a=some (PySem.W.instObj C dx)∧
   ∃mA,h.Ns1 dx mA∧(∀f,RelO (fs.lookup f) (mA f))∧PySem.Within mA (fs.map (·.1))
 | .own _=>∃o,h.get? a=some o
 | .xd fs=>∃mA,h.Ns1 a mA∧∀f,RelO (fs.lookup f) (mA f)
 | .rng lo hi=>∃t u v,h.get? a=some {cls:= .type "range",data:= .fields #[.int lo t,.int hi u,.int 1 v]}
 | .frz o u=>h.get? a=some o∧ObjOk H h a u
 | .tbl ps=>h.get? a=some {cls:= .none,data:= .fields ps}
 | .met f x=>h.get? a=some (PySem.W.methodObj (.ref f) (.ref x))
 | .ext φ=>φ h∧(∃o,h.get? a=some o)∧∀h1 h2:Heap,φ h1→(∀o,h1.get? a=some o→h2.get? a=some o)→φ h2
def HOk(H:Hp)(h:Heap):Prop:=∀a o,H a=some o→ObjOk P w H h a o
end
section
variable{P:Program}{w:World}{H H':Hp}{h h':Heap}{a:Addr}{o:HO}
theorem ObjOk.lt(x:ObjOk P w H h a o):a<h.objs.size:=by
 cases o with
 | lst xs=>obtain⟨_,_,_,_,e⟩:=x;exact Heap.lt_size e
 | tup xs=>obtain⟨_,_,_,p⟩:=x;exact p.lt
 | dK kvs=>obtain⟨_,_,_,_,o,_,_,e,_⟩:=x;exact Heap.lt_size e
 | dT kvs=>obtain⟨_,_,_,_,o,_,_,e,_⟩:=x;exact Heap.lt_size e
 | set S n=>obtain⟨o,_,_,_,e,_⟩:=x;exact Heap.lt_size e
 | ins C dx fs=>obtain⟨_,_,_,e,_⟩:=x;exact Heap.lt_size e
 | own y=>obtain⟨_,e⟩:=x;exact Heap.lt_size e
 | xd fs=>obtain⟨_,⟨_,_,_,e,_⟩,_⟩:=x;exact Heap.lt_size e
 | rng lo hi=>obtain⟨_,_,_,e⟩:=x;exact Heap.lt_size e
 | frz ob u=>obtain⟨e,_⟩:=x;exact Heap.lt_size e
 | tbl ps=>exact Heap.lt_size (show h.get? a=some _ from x)
 | met f y=>exact Heap.lt_size (show h.get? a=some _ from x)
 | ext φ=>obtain⟨_,⟨_,e⟩,_⟩:=x;exact Heap.lt_size e
theorem Paired.mapP{α β:Type}{F G:α→β→Prop}:∀{l₁:List α} {l₂:List β},Paired F l₁ l₂→(∀a b,F a b→G a b)→Paired G l₁ l₂
 | _,_,.nil,_=> .nil
 | _,_,.cons r t,f=> .cons (f _ _ r) (Paired.mapP t f)
theorem ObjOk.stay(x:ObjOk P w H h a o)(k:∀b u,(b=a∨H b=some (.own a))→h.get? b=some u→h'.get? b=some u)
  (ho:∀b,H b=some (.own a)→H' b=some (.own a)) (ht:∀b xs,H b=some (.tup xs)→H' b=some (.tup xs)):ObjOk P w H' h' a o:=by
 induction o with
 | lst xs=>obtain⟨z,its,n,r,e⟩:=x;exact⟨z,its,n,r,k _ _ (.inl rfl) e⟩
 | tup xs=>obtain⟨z,its,r,ob,e,c⟩:=x;exact⟨z,its,r,ob,k _ _ (.inl rfl) e,c⟩
 | dK kvs=>obtain⟨z,y,vs,r,ob,es,ep,e,c⟩:=x;exact⟨z,y,vs,r,ob,es,ep,k _ _ (.inl rfl) e,c⟩
 | dT kvs=>
  obtain⟨z,y,xs,r,ob,es,ep,e,c⟩:=x
  exact⟨z,y,xs,Paired.mapP r fun p q z=>⟨z.1,ht _ _ z.2.1,z.2.2⟩,ob,es,ep,k _ _ (.inl rfl) e,c⟩
 | set S n=>obtain⟨ob,es,ep,t,e,c⟩:=x;exact⟨ob,es,ep,t,k _ _ (.inl rfl) e,c⟩
 | ins C dx fs=>
  obtain⟨d,z,ne,e,mA,⟨od,es,ep,e2,c⟩,r⟩:=x
  exact⟨ho _ d,z,ne,k _ _ (.inl rfl) e,mA,⟨od,es,ep,k _ _ (.inr d) e2,c⟩,r⟩
 | own y=>obtain⟨ob,e⟩:=x;exact⟨ob,k _ _ (.inl rfl) e⟩
 | xd fs=>obtain⟨mA,⟨od,es,ep,e,c⟩,r⟩:=x;exact⟨mA,⟨od,es,ep,k _ _ (.inl rfl) e,c⟩,r⟩
 | rng lo hi=>obtain⟨t,u,v,e⟩:=x;exact⟨t,u,v,k _ _ (.inl rfl) e⟩
 | frz ob u ih=>obtain⟨e,q⟩:=x;exact⟨k _ _ (.inl rfl) e,ih q⟩
 | tbl ps=>
  have e:h.get? a=some {cls:= .none,data:= .fields ps}:=x
  show h'.get? a=some {cls:= .none,data:= .fields ps}
  exact k a _ (.inl rfl) e
 | met f y=>
  have e:h.get? a=some (PySem.W.methodObj (.ref f) (.ref y)):=x
  show h'.get? a=some (PySem.W.methodObj (.ref f) (.ref y))
  exact k a _ (.inl rfl) e
 | ext φ=>obtain⟨p,⟨o,e⟩,st⟩:=x;exact⟨st _ _ p fun o q=>k _ _ (.inl rfl) q,⟨o,k _ _ (.inl rfl) e⟩,st⟩
theorem HOk.lt(x:HOk P w H h)(e:H a=some o):a<h.objs.size:=(x a o e).lt
theorem HOk.fresh(x:HOk P w H h)(e:h.objs.size≤a):H a=none:=by
 cases q:H a with
 | none=>rfl
 | some u=>exact absurd (Nat.lt_of_lt_of_le (x.lt q) e) (Nat.lt_irrefl _)
theorem HOk.kept(x:HOk P w H h)(k:∀b u,h.get? b=some u→h'.get? b=some u):HOk P w H h':=fun a o e=>
 (x a o e).stay (fun b u _ q=>k b u q) (fun _ q=>q) fun _ _ q=>q
theorem HOk.laid(x:HOk P w H h)(k:∀b u,h.get? b=some u→h'.get? b=some u)(hp:h.objs.size≤a)(new:ObjOk P w (upd H a o) h' a o):HOk P w (upd H a o) h':=fun b u e=>by
 have hn:=x.fresh hp
 by_cases hb:b=a
 ·subst hb;rw[upd_same] at e;cases e;exact new
 ·rw[upd_ne hb] at e
  exact(x b u e).stay (fun c v _ q=>k c v q) (fun c q=>by rw[upd_ne (ne_of_none q hn)];exact q) fun c xs q=>by rw[upd_ne (ne_of_none q hn)];exact q
end
def Rd(H:Hp)(a:Addr)(u:HO):Prop:=H a=some u∨∃o,H a=some (.frz o u)
theorem Rd.of{H:Hp}{a:Addr}{u:HO}(h:H a=some u):Rd H a u:= .inl h
theorem Rd.ok{P:Program}{w:World}{H:Hp}{h:Heap}{a:Addr}{u:HO}(r:Rd H a u)(x:HOk P w H h):ObjOk P w H h a u:=by
 rcases r with r | ⟨o,r⟩
 ·exact x a u r
 ·obtain⟨_,q⟩:=x a _ r
  exact q
def Mut:Option HO→Prop
 | some (.lst _)=>True
 | some (.dK _)=>True
 | some (.dT _)=>True
 | some (.set _ _)=>True
 | some (.ins _ _ _)=>True
 | some (.ext _)=>True
 | _=>False
section
variable{P:Program}{w:World}{H:Hp}{h h':Heap}{x e:Addr}{o':HO}
theorem HOk.write(ok:HOk P w H h)(mu:Mut (H x))(he:e=x∨H e=some (.own x))(k:∀b u,b≠e→h.get? b=some u→h'.get? b=some u)(heo:∃u,h'.get? e=some u)
  (new:ObjOk P w (upd H x o') h' x o'):HOk P w (upd H x o') h':=fun b u q=>by
 have nown:∀c y,H c=some (.own y)→c≠x:=fun c y r z=>by subst z;rw[r] at mu;exact mu
 have ntup:∀c xs,H c=some (.tup xs)→c≠x:=fun c xs r z=>by subst z;rw[r] at mu;exact mu
 by_cases hb:b=x
 ·subst hb;rw[upd_same] at q;cases q;exact new
 ·rw[upd_ne hb] at q
  by_cases hbe:b=e
  ·have q':H b=some (.own x):=by
    rcases he with z | z
    ·exact absurd (hbe.trans z) hb
    ·rw[hbe];exact z
   rw[q] at q';cases q'
   obtain⟨v,hv⟩:=heo
   exact⟨v,by rw[hbe];exact hv⟩
  ·refine(ok b u q).stay (fun c v hc r=>k c v ?_ r) (fun c r=>by rw[upd_ne (nown c b r)];exact r) fun c xs r=>by rw[upd_ne (ntup c xs r)];exact r
   rcases hc with rfl | hc
   ·exact hbe
   ·rintro rfl
    rcases he with z | z
    ·exact nown c b hc z
    ·rw[hc] at z;cases z;exact hb rfl
end
structure Un(fs ex:List Addr)(H H':Hp)(h h':Heap):Prop where
 keep:∀b o,h.get? b=some o→H b=none→b∉fs→b∉ex→h'.get? b=some o
 slot:∀b o,h.get? b=some o→H b=none→b∈fs→b∉ex→∃sl,h'.get? b=some {o with slots:=sl}
 free:∀b o,h.get? b=some o→H b=none→b∉ex→H' b=none
 there:∀b o,h.get? b=some o→b∉ex→∃o',h'.get? b=some o'
 tups:∀b xs,H b=some (.tup xs)→H' b=some (.tup xs)
 frzs:∀b o u,H b=some (.frz o u)→H' b=some (.frz o u)
 tbls:∀b ps,H b=some (.tbl ps)→∃more,H' b=some (.tbl (ps++more))
section
variable{fs fs' ex ex':List Addr}{H H1 H2:Hp}{h h1 h2 h':Heap}{a x e:Addr}{o:HO}
theorem Un.any(u:Un fs ex H H1 h h1){b:Addr}{ob:Obj}(q:h.get? b=some ob)(n:H b=none)(hx:b∉ex):∃sl,h1.get? b=some {ob with slots:=sl}:=by
 by_cases hb:b∈fs
 ·exact u.slot b ob q n hb hx
 ·exact⟨ob.slots,u.keep b ob q n hb hx⟩
theorem Un.kept(k:∀b u,h.get? b=some u→h'.get? b=some u):Un fs ex H H h h':=
 ⟨fun b ob q _ _ _=>k b ob q,fun b ob q _ _ _=>⟨ob.slots,k b ob q⟩,fun _ _ _ n _=>n,fun b ob q _=>⟨ob,k b ob q⟩,fun _ _ q=>q,fun _ _ _ q=>q,fun _ ps q=>⟨#[],by rw[q];simp⟩⟩
theorem Un.refl:Un fs ex H H h h:=Un.kept fun _ _ q=>q
theorem Un.laid(k:∀b u,h.get? b=some u→h'.get? b=some u)(hp:h.objs.size≤a)(hn:H a=none):Un fs ex H (upd H a o) h h' where
 keep:=fun b u q _ _ _=>k b u q
 slot:=fun b u q _ _ _=>⟨u.slots,k b u q⟩
 free:=fun b u q n _=>by rw[upd_ne (Nat.ne_of_lt (Nat.lt_of_lt_of_le (Heap.lt_size q) hp))];exact n
 there:=fun b u q _=>⟨u,k b u q⟩
 tups:=fun b xs q=>by rw[upd_ne (ne_of_none q hn)];exact q
 frzs:=fun b u xs q=>by rw[upd_ne (ne_of_none q hn)];exact q
 tbls:=fun b ps q=>⟨#[],by rw[upd_ne (ne_of_none q hn),q];simp⟩
theorem Un.write(mu:Mut (H x))(he:e=x∨H e=some (.own x))(k:∀b u,b≠e→h.get? b=some u→h'.get? b=some u)(heo:∃u,h'.get? e=some u):Un fs ex H (upd H x o) h h':=by
 have hx:∀b,H b=none→b≠x:=fun b n z=>by subst z;rw[n] at mu;exact mu
 have hb:∀b,H b=none→b≠e:=fun b n z=>by
  subst z
  rcases he with r | r
  ·exact hx b n r
  ·rw[n] at r;cases r
 have hm:∀b u,H b=some u→¬Mut (some u)→b≠x:=fun b u q nm z=>by subst z;rw[q] at mu;exact nm mu
 refine⟨fun b u q n _ _=>k b u (hb b n) q,fun b u q n _ _=>⟨u.slots,k b u (hb b n) q⟩,fun b u q n _=>by rw[upd_ne (hx b n)];exact n,fun b u q _=>?_,
  fun b xs q=>by rw[upd_ne (hm b _ q fun z=>z)];exact q,fun b u xs q=>by rw[upd_ne (hm b _ q fun z=>z)];exact q,fun b ps q=>⟨#[],by rw[upd_ne (hm b _ q fun z=>z),q];simp⟩⟩
 by_cases hbe:b=e
 ·subst hbe;exact heo
 ·exact⟨u,k b u hbe q⟩
end
def trk(h:Heap)(H:Hp):List Addr:=(List.range h.objs.size).filter fun a=>(H a).isSome
def hidT(h:Heap)(H:Hp):Heap:=PySem.W.hideAll h (trk h H)
theorem hidT_size(h:Heap)(H:Hp):(hidT h H).objs.size=h.objs.size:=PySem.W.hideAll_size _ _
theorem hidT_get{h:Heap}{H:Hp}{b:Addr}{o:Obj}(e:h.get? b=some o)(n:H b=none):(hidT h H).get? b=some o:=
 PySem.W.hideAll_get _ e fun hm=>by
  have q:(H b).isSome=true:=(List.mem_filter.mp hm).2
  rw[n] at q;simp at q
theorem of_hidT{h:Heap}{H:Hp}{b:Addr}{o:Obj}(e:(hidT h H).get? b=some o):h.get? b=some o∧H b=none:=by
 have e':h.get? b=some o:=PySem.W.of_hideAll (trk h H) e
 refine⟨e',?_⟩
 cases q:H b with
 | none=>rfl
 | some x=>
  have hm:b∈trk h H:=List.mem_filter.mpr ⟨List.mem_range.mpr (Heap.lt_size e'),by simp[q]⟩
  have z:(hidT h H).get? b=none:=PySem.W.hideAll_none (trk h H) hm
  rw[z] at e;cases e
def allNews(g h:Heap)(L:Addr):List (Addr×Obj):=(List.range h.objs.size).filterMap fun a=>if a=L∨(g.get? a).isSome=true then none else(h.get? a).map fun o=>(a,o)
def rest(g h:Heap)(L d:Addr):List (Addr×Obj):=(allNews g h L).filter fun p=>decide (p.1≠d)
structure Mod(K:PySem.W.Frag)(mg:Str→Option Value)(base:Heap):Prop where
 kin:K.In base
 glob:base.Ns mainGlobals mg
 blt:∃mb,base.Ns builtinsNs mb∧∀x:Str,x≠"__name__"→mb x=bootBuiltins x
 nolimit:base.NoLimit
structure Cx where
 prog:Program
 w:World
 K:PySem.W.Frag
 mg:Str→Option Value
 base:Heap
 A:Around
 N:List Str
 s₀:Shared
 H₀:Hp
 env:Env
 outer:List Env
 stack:List Env
 ex:List Addr
 fn:Str→Bool
 calm:Bool
 pn:List (Addr×Obj)
 xe:Value→Shared→Prop
def frs(l:List Env):List Addr:=l.filterMap (·.frame)
abbrev Cx.fs(X:Cx):List Addr:=frs X.outer
def Vis(sc:Scope)(x:Str):Prop:=sc.names.lookup x=some .local∨sc.names.lookup x=some .cell∨sc.names.lookup x=some .free
def Loc(sc:Scope)(x:Str):Prop:=sc.names.lookup x=some .local∨sc.names.lookup x=some .cell
def Look(env:Env)(h:Heap)(m:Str→Option Value)(x:Str)(u:Value):Prop:=
 (env.kindOf x=some .local∧m x=some u)∨((env.kindOf x=some .cell∨env.kindOf x=some .free)∧∃c,env.cells.lookup x=some c∧h.IsCell c (some u))
structure Cx.Ok(X:Cx):Prop where
 mod:Mod X.K X.mg X.base
 kind:X.env.scope.kind= .function
 glob:X.env.globals=mainGlobals
 blt:X.env.builtins=builtinsNs
 above:X.s₀.heap.objs.size≤X.env.locals
 inj:∀x y c,X.env.cells.lookup x=some c→X.env.cells.lookup y=some c→x=y
 has:∀x,(X.env.kindOf x=some .cell∨X.env.kindOf x=some .free)→∃c,X.env.cells.lookup x=some c
 cab:∀x c,X.fn x=true→X.env.cells.lookup x=some c→X.s₀.heap.objs.size≤c
 hd:X.calm=true→X.A.handled=none
 frames:X.A.frames=some X.stack
 stk:X.stack=X.outer∨(X.stack=X.env::X.outer∧X.env.frame=some X.env.locals)
 exf:∀b∈X.ex,b≠X.env.locals∧∀x c,X.env.cells.lookup x=some c→c≠b
 bs:∀b o,X.base.get? b=some o→X.s₀.heap.get? b=some o∧X.H₀ b=none
 bsz:X.base.objs.size≤X.s₀.heap.objs.size
 noex:∀b o,X.base.get? b=some o→b∉X.ex
 exfs:∀b∈X.ex,b∉X.fs
 funs:X.s₀.heap.FunFrames X.base X.outer
 frf:∀b∈X.fs,X.H₀ b=none
structure Inv(X:Cx)(pins:List (Addr×Obj))(σ:List (Option V))(H:Hp)(s:Shared):Prop where
 ok:X.Ok
 os:s.os=X.s₀.os
 bare:AllBare s.gens
 base:Un X.fs X.ex X.H₀ H X.s₀.heap s.heap
 loc:∃m,s.heap.Ns X.env.locals m∧∀(i:Nat) (x:Str) (v:V),X.N[i]?=some x→σ[i]?=some (some v)→Vis X.env.scope x→∃u,RelV v u∧Look X.env s.heap m x u
 cell:∀x c,X.env.cells.lookup x=some c→∃v,s.heap.IsCell c v
 free:H X.env.locals=none
 freeC:∀x c,X.env.cells.lookup x=some c→H c=none
 pin:∀p∈X.pn++pins,s.heap.get? p.1=some p.2∧H p.1=none∧p.1≠X.env.locals∧p.1∉X.fs∧∀v,p.2.data≠ .cell v
 hok:HOk X.prog X.w H s.heap
 len:σ.length=X.N.length
section
variable{X:Cx}{pins:List (Addr×Obj)}{σ:List (Option V)}{H H':Hp}{s:Shared}{h':Heap}
theorem Cx.Ok.nofr(ok:X.Ok){b:Addr}{o:Obj}(e:X.base.get? b=some o):b∉X.fs:=fun hb=>by
 have:=(ok.funs.mem hb).1
 rw[e] at this;cases this
theorem Inv.bs(I:Inv X pins σ H s):∀b o,X.base.get? b=some o→s.heap.get? b=some o∧H b=none:=fun b o e=>
 ⟨I.base.keep b o (I.ok.bs b o e).1 (I.ok.bs b o e).2 (I.ok.nofr e) (I.ok.noex b o e),I.base.free b o (I.ok.bs b o e).1 (I.ok.bs b o e).2 (I.ok.noex b o e)⟩
theorem Inv.bk(I:Inv X pins σ H s):∀b o,X.base.get? b=some o→s.heap.get? b=some o:=fun b o e=>(I.bs b o e).1
theorem Inv.mod(I:Inv X pins σ H s):Mod X.K X.mg X.base:=I.ok.mod
theorem Inv.kIn(I:Inv X pins σ H s):X.K.In s.heap:=I.ok.mod.kin.keeps I.bk
theorem Inv.lt(I:Inv X pins σ H s):X.env.locals<s.heap.objs.size:=let ⟨_,hn,_⟩:=I.loc;hn.lt
theorem Inv.sz(I:Inv X pins σ H s):X.s₀.heap.objs.size≤s.heap.objs.size:=Nat.le_trans I.ok.above (Nat.le_of_lt I.lt)
theorem Inv.nofs(I:Inv X pins σ H s){a:Addr}(h:s.heap.objs.size≤a):a∉X.fs:=fun hb=>by
 obtain⟨_,o,ho,_⟩:=I.ok.funs.mem hb
 exact absurd (Nat.lt_of_lt_of_le (Heap.lt_size ho) (Nat.le_trans I.sz h)) (Nat.lt_irrefl _)
theorem Inv.cne(I:Inv X pins σ H s):∀x c,X.env.cells.lookup x=some c→c≠X.env.locals:=fun x c e z=>by
 obtain⟨v,o,ho,hd⟩:=I.cell x c e
 obtain⟨m,⟨o',es,ep,ho',hd',_⟩,_⟩:=I.loc
 rw[z,ho'] at ho;cases ho;rw[hd'] at hd;cases hd
theorem Inv.funs(I:Inv X pins σ H s):s.heap.FunFrames X.base X.outer:=by
 have all:∀(l:List Env),(∀b∈frs l,b∈X.fs)→X.s₀.heap.FunFrames X.base l→s.heap.FunFrames X.base l:=by
  intro l
  induction l with
  | nil=>intro _ _;trivial
  | cons env r ih=>
   intro hs hl
   obtain⟨hk,⟨L,o,hf,hn,ho,hd⟩,hr⟩:=hl
   have hL:L∈X.fs:=hs L (by unfold frs;rw[List.filterMap_cons,hf];exact List.mem_cons_self)
   obtain⟨sl,e⟩:=I.base.slot L o ho (I.ok.frf L hL) hL fun z=>I.ok.exfs L z hL
   exact⟨hk,⟨L,_,hf,hn,e,hd⟩,ih (fun b hb=>hs b (by unfold frs;rw[List.filterMap_cons,hf];exact List.mem_cons_of_mem _ hb)) hr⟩
 exact all X.outer (fun _ hb=>hb) I.ok.funs
theorem Inv.stack(I:Inv X pins σ H s):s.heap.FunFrames X.base X.stack:=by
 rcases I.ok.stk with e | ⟨e,hf⟩
 ·rw[e];exact I.funs
 ·rw[e]
  obtain⟨m,hn,_⟩:=I.loc
  refine .cons (by rw[I.ok.kind];decide) hf hn ?_ I.funs
  exact Heap.get?_none_of_le (Nat.le_trans I.ok.bsz I.ok.above)
theorem Inv.stkSub(I:Inv X pins σ H s):∀b∈frs X.stack,b∈X.env.locals::X.fs:=fun b hb=>by
 rcases I.ok.stk with e | ⟨e,hf⟩
 ·rw[e] at hb;exact List.mem_cons_of_mem _ hb
 ·rw[e] at hb
  unfold frs at hb
  rw[List.filterMap_cons,hf] at hb
  exact hb
theorem Inv.stkFree(I:Inv X pins σ H s):∀b∈frs X.stack,H b=none:=fun b hb=>by
 rcases List.mem_cons.mp (I.stkSub b hb) with e | hb
 ·rw[e];exact I.free
 ·obtain⟨_,o,ho,_⟩:=I.ok.funs.mem hb
  exact I.base.free b o ho (I.ok.frf b hb) fun z=>I.ok.exfs b z hb
theorem Inv.step{g':Array GenState}{t':Nat}{d':Drawn}{ch:List Addr}(I:Inv X pins σ H s)
  (hch:∀b∈ch,(b∈X.ex∨X.s₀.heap.objs.size≤b)∧b≠X.env.locals∧(∀x c,X.env.cells.lookup x=some c→c≠b)∧∀p∈X.pn++pins,p.1≠b)
  (keep:∀b o,b≠X.env.locals→b∉X.fs→b∉ch→s.heap.get? b=some o→H b=none→h'.get? b=some o)
  (slot:∀b o,b≠X.env.locals→b∈X.fs→b∉ch→s.heap.get? b=some o→H b=none→∃sl,h'.get? b=some {o with slots:=sl}) (free:∀b o,b∉ch→s.heap.get? b=some o→H b=none→H' b=none)
  (there:∀b o,b∉ch→s.heap.get? b=some o→∃o',h'.get? b=some o')
  (tups:∀b xs,H b=some (.tup xs)→H' b=some (.tup xs)) (frzs:∀b o u,H b=some (.frz o u)→H' b=some (.frz o u)) (tbls:∀b ps,H b=some (.tbl ps)→∃more,H' b=some (.tbl (ps++more)))
  (ns:∀m,s.heap.Ns X.env.locals m→h'.Ns X.env.locals m) (hok:HOk X.prog X.w H' h') (hg:AllBare g'):
  Inv X pins σ H' {s with heap:=h',gens:=g',drawn:=d',toks:=t'}:=by
 have neL:∀b o,X.s₀.heap.get? b=some o→b≠X.env.locals:=fun b o e=>Nat.ne_of_lt (Nat.lt_of_lt_of_le (Heap.lt_size e) I.ok.above)
 have neC:∀b o,X.s₀.heap.get? b=some o→b∉X.ex→b∉ch:=fun b o e hx hb=>by
  rcases(hch b hb).1 with z | z
  ·exact hx z
  ·exact absurd (Nat.lt_of_lt_of_le (Heap.lt_size e) z) (Nat.lt_irrefl _)
 have cellK:∀x c,X.env.cells.lookup x=some c→∀v,s.heap.IsCell c v→h'.IsCell c v:=fun x c e v ⟨o,ho,hd⟩=>by
  have nch:c∉ch:=fun z=>(hch c z).2.2.1 x c e rfl
  by_cases hc:c∈X.fs
  ·obtain⟨sl,q⟩:=slot c o (I.cne x c e) hc nch ho (I.freeC x c e)
   exact⟨_,q,hd⟩
  ·exact⟨o,keep c o (I.cne x c e) hc nch ho (I.freeC x c e),hd⟩
 refine⟨I.ok,I.os,hg,⟨fun b o e n hb hx=>?_,fun b o e n hb hx=>?_,fun b o e n hx=>?_,fun b o e hx=>?_,fun b xs e=>tups b xs (I.base.tups b xs e),fun b o xs e=>frzs b o xs (I.base.frzs b o xs e),fun b ps e=>?_⟩,?_,fun x c e=>?_,?_,fun x c e=>?_,fun p hp=>?_,hok,I.len⟩
 ·exact keep b o (neL b o e) hb (neC b o e hx) (I.base.keep b o e n hb hx) (I.base.free b o e n hx)
 ·obtain⟨sl,e1⟩:=I.base.slot b o e n hb hx
  obtain⟨sl',e2⟩:=slot b _ (neL b o e) hb (neC b o e hx) e1 (I.base.free b o e n hx)
  exact⟨sl',e2⟩
 ·obtain⟨o',e1⟩:=I.base.there b o e hx
  exact free b o' (neC b o e hx) e1 (I.base.free b o e n hx)
 ·obtain⟨o',e1⟩:=I.base.there b o e hx
  exact there b o' (neC b o e hx) e1
 ·obtain⟨m1,e1⟩:=I.base.tbls b ps e
  obtain⟨m2,e2⟩:=tbls b _ e1
  exact⟨m1++m2,by rw[e2,Array.append_assoc]⟩
 ·obtain⟨m,hn,hl⟩:=I.loc
  refine⟨m,ns m hn,fun i x v e1 e2 e3=>?_⟩
  obtain⟨u,r,l⟩:=hl i x v e1 e2 e3
  refine⟨u,r,?_⟩
  rcases l with l | ⟨k,c,e,z⟩
  ·exact .inl l
  ·exact .inr ⟨k,c,e,cellK x c e _ z⟩
 ·obtain⟨v,z⟩:=I.cell x c e
  exact⟨v,cellK x c e v z⟩
 ·obtain⟨m,⟨o,_,_,ho,_⟩,_⟩:=I.loc
  exact free _ o (fun z=>(hch _ z).2.1 rfl) ho I.free
 ·obtain⟨v,o,ho,hd⟩:=I.cell x c e
  exact free c o (fun z=>(hch c z).2.2.1 x c e rfl) ho (I.freeC x c e)
 ·obtain⟨e,n,ne,nf,d⟩:=I.pin p hp
  have nch:p.1∉ch:=fun z=>(hch p.1 z).2.2.2 p hp rfl
  exact⟨keep p.1 p.2 ne nf nch e n,free p.1 p.2 nch e n,ne,nf,d⟩
theorem Inv.un{t':Nat}(I:Inv X pins σ H s)(u:Un X.fs [] H H' s.heap h')(hok:HOk X.prog X.w H' h'):Inv X pins σ H' {s with heap:=h',toks:=t'}:=by
 obtain⟨m,⟨o,es,ep,ho,r⟩,_⟩:=id I.loc
 obtain⟨sl,hL⟩:=u.any ho I.free (by simp)
 exact I.step (g':=s.gens) (d':=s.drawn) (ch:=[]) (fun _ z=>nomatch z) (fun b o _ hb _ e n=>u.keep b o e n hb (by simp)) (fun b o _ hb _ e n=>u.slot b o e n hb (by simp)) (fun b o _ e n=>u.free b o e n (by simp)) (fun b o _ e=>u.there b o e (by simp)) u.tups u.frzs u.tbls (fun m' hm=>by
  obtain⟨o',es',ep',ho',r'⟩:=hm
  rw[ho] at ho';cases ho'
  exact⟨_,es',ep',hL,r'⟩) hok I.bare
theorem Inv.call{g':Array GenState}{t':Nat}{d':Drawn}{ch:List Addr}(I:Inv X pins σ H s)(u:Un (frs X.stack) ch H H' s.heap h')(hok:HOk X.prog X.w H' h')(hg:AllBare g')
  (hch:∀b∈ch,(b∈X.ex∨X.s₀.heap.objs.size≤b)∧b≠X.env.locals∧(∀x c,X.env.cells.lookup x=some c→c≠b)∧∀p∈X.pn++pins,p.1≠b):
  Inv X pins σ H' {s with heap:=h',gens:=g',drawn:=d',toks:=t'}:=by
 obtain⟨m,⟨o,es,ep,ho,r⟩,_⟩:=id I.loc
 obtain⟨sl,hL⟩:=u.any ho I.free fun z=>(hch _ z).2.1 rfl
 exact I.step (ch:=ch) hch (fun b o hL hb hc e n=>u.keep b o e n (fun z=>(List.mem_cons.mp (I.stkSub b z)).elim hL hb) hc) (fun b o _ _ hc e n=>u.any e n hc) (fun b o hc e n=>u.free b o e n hc) (fun b o hc e=>u.there b o e hc) u.tups u.frzs u.tbls (fun m' hm=>by
  obtain⟨o',es',ep',ho',r'⟩:=hm
  rw[ho] at ho';cases ho'
  exact⟨_,es',ep',hL,r'⟩) hok hg
theorem Inv.turned{t':Nat}{it:Addr}(I:Inv X pins σ H s)(k:∀b o,b≠it→s.heap.get? b=some o→h'.get? b=some o)(hn:H it=none)(hL:it≠X.env.locals)
  (h1:it∈X.ex∨X.s₀.heap.objs.size≤it) (h2:∀x c,X.env.cells.lookup x=some c→c≠it) (h3:∀p∈X.pn++pins,p.1≠it):Inv X pins σ H {s with heap:=h',toks:=t'}:=by
 have nit:∀b u,H b=some u→b≠it:=fun b u e z=>by rw[z,hn] at e;cases e
 refine I.step (g':=s.gens) (d':=s.drawn) (ch:=[it]) (fun b hb=>?_) (fun b o _ _ hc e _=>k b o (fun z=>hc (by simp[z])) e) (fun b o _ _ hc e _=>⟨o.slots,k b o (fun z=>hc (by simp[z])) e⟩) (fun _ _ _ _ n=>n)
  (fun b o hc e=>⟨o,k b o (fun z=>hc (by simp[z])) e⟩) (fun _ _ e=>e) (fun _ _ _ e=>e) (fun b ps e=>⟨#[],by rw[e];simp⟩) (fun m hm=>?_) (fun b u e=>?_) I.bare
 ·have e:b=it:=by simpa using hb
  subst e
  exact⟨h1,hL,h2,h3⟩
 ·obtain⟨o,es,ep,ho,r⟩:=hm
  exact⟨o,es,ep,k _ o (Ne.symm hL) ho,r⟩
 ·refine(I.hok b u e).stay (fun c v hc q=>k c v ?_ q) (fun _ q=>q) fun _ _ q=>q
  rcases hc with z | z
  ·rw[z];exact nit b u e
  ·exact nit c _ z
theorem Inv.tok(I:Inv X pins σ H s)(t:Nat):Inv X pins σ H {s with toks:=t}:=I.un (h':=s.heap) (t':=t) Un.refl I.hok
theorem Inv.kept{t':Nat}(I:Inv X pins σ H s)(k:∀b u,s.heap.get? b=some u→h'.get? b=some u):Inv X pins σ H {s with heap:=h',toks:=t'}:=I.un (Un.kept k) (I.hok.kept k)
theorem Inv.laid{a:Addr}{o:HO}{t':Nat}(I:Inv X pins σ H s)(k:∀b u,s.heap.get? b=some u→h'.get? b=some u)(hp:s.heap.objs.size≤a)(new:ObjOk X.prog X.w (upd H a o) h' a o):
  Inv X pins σ (upd H a o) {s with heap:=h',toks:=t'}:=I.un (Un.laid k hp (I.hok.fresh hp)) (I.hok.laid k hp new)
theorem Inv.write{x e:Addr}{o:HO}{t':Nat}(I:Inv X pins σ H s)(mu:Mut (H x))(he:e=x∨H e=some (.own x))(k:∀b u,b≠e→s.heap.get? b=some u→h'.get? b=some u)(heo:∃u,h'.get? e=some u)
  (new:ObjOk X.prog X.w (upd H x o) h' x o):Inv X pins σ (upd H x o) {s with heap:=h',toks:=t'}:=I.un (Un.write mu he k heo) (I.hok.write mu he k heo new)
theorem Inv.pins_of{pins':List (Addr×Obj)}(I:Inv X pins σ H s)(h:∀p∈pins',s.heap.get? p.1=some p.2∧H p.1=none∧p.1≠X.env.locals∧p.1∉X.fs∧∀v,p.2.data≠ .cell v):Inv X pins' σ H s:=
 ⟨I.ok,I.os,I.bare,I.base,I.loc,I.cell,I.free,I.freeC,fun p hp=>(List.mem_append.mp hp).elim (fun z=>I.pin p (List.mem_append_left _ z)) (h p),I.hok,I.len⟩
theorem nodup_ix{N:List Str}(hN:N.Nodup){i j:Nat}{x:Str}(a:N[i]?=some x)(b:N[j]?=some x):i=j:=by
 obtain⟨h1,e1⟩:=List.getElem?_eq_some_iff.mp a
 obtain⟨h2,e2⟩:=List.getElem?_eq_some_iff.mp b
 exact(List.getElem_inj hN).mp (e1.trans e2.symm)
theorem store_ok2{M:Model}{A:Around}{E:Value→Shared→Prop}{i:Nat}{x:Str}{v:V}{u:Value}{Q:Unit→Shared→Prop}(I:Inv X pins σ H s)(hN:X.N.Nodup)(hi:X.N[i]?=some x)(hx:Loc X.env.scope x)(r:RelV v u)
  (h:∀s',Inv X pins (σ.set i (some v)) H s'→(∃a,Heap.SameBut a s.heap s'.heap∧(a=X.env.locals∨X.env.cells.lookup x=some a))→Q () s') (hf:X.fn x=true∨X.env.scope.names.lookup x=some .local:=by first | exact .inl rfl | exact .inr rfl | assumption):wpAny M A (storeName X.env x u) Q E s:=by
 obtain⟨m,hn,hl⟩:=id I.loc
 have hcls:(X.env.scope.kind== .class || (X.env.scope.kind== .module&&X.env.locals !=X.env.globals))=false:=by rw[I.ok.kind];rfl
 have hiσ:i<σ.length:=by rw[I.len];exact(List.getElem?_eq_some_iff.mp hi).1
 have cne:=I.cne
 have tracked:∀{a:Addr} {h':Heap},(∃o,s.heap.get? a=some o∧H a=none)→Heap.SameBut a s.heap h'→HOk X.prog X.w H h':=fun{a h'} ha hs b ob e=>by
  obtain⟨_,_,hfree⟩:=ha
  refine(I.hok b ob e).stay (fun c w' hc q=>(hs.2 c ?_).trans q) (fun _ q=>q) fun _ _ q=>q
  rintro rfl
  rcases hc with rfl | hc
  ·rw[hfree] at e;cases e
  ·rw[hfree] at hc;cases hc
 rcases hx with hk | hk
 ·refine wpAny_storeName_local hk hn (fun h' hn' hs=>?_) hcls
  obtain⟨oL,_,_,hoL,_⟩:=id hn
  refine h _ ⟨I.ok,I.os,I.bare,⟨fun b o e n hb hx=>?_,fun b o e n hb hx=>?_,I.base.free,fun b o e hx=>?_,I.base.tups,I.base.frzs,I.base.tbls⟩,⟨_,hn',fun j y v' e1 e2 e3=>?_⟩,fun y c e=>?_,I.free,I.freeC,fun p hp=>?_,tracked ⟨oL,hoL,I.free⟩ hs,by simpa using I.len⟩ ⟨_,hs,.inl rfl⟩
  ·exact(hs.2 b (Nat.ne_of_lt (Nat.lt_of_lt_of_le (Heap.lt_size e) I.ok.above))).trans (I.base.keep b o e n hb hx)
  ·obtain⟨sl,e1⟩:=I.base.slot b o e n hb hx
   exact⟨sl,(hs.2 b (Nat.ne_of_lt (Nat.lt_of_lt_of_le (Heap.lt_size e) I.ok.above))).trans e1⟩
  ·obtain⟨o',e1⟩:=I.base.there b o e hx
   exact⟨o',(hs.2 b (Nat.ne_of_lt (Nat.lt_of_lt_of_le (Heap.lt_size e) I.ok.above))).trans e1⟩
  ·by_cases hj:j=i
   ·subst hj
    rw[hi] at e1;cases e1
    rw[List.getElem?_set_self hiσ] at e2
    cases e2
    exact⟨u,r,.inl ⟨hk,by simp⟩⟩
   ·rw[List.getElem?_set_ne (Ne.symm hj)] at e2
    obtain⟨u',r',q⟩:=hl j y v' e1 e2 e3
    refine⟨u',r',?_⟩
    rcases q with⟨k,e⟩ | ⟨k,c,e,z⟩
    ·refine .inl ⟨k,?_⟩
     have:y≠x:=fun e=>hj (nodup_ix hN e1 (e ▸ hi))
     simp[this,e]
    ·exact .inr ⟨k,c,e,z.sameBut hs (cne y c e)⟩
  ·obtain⟨w',z⟩:=I.cell y c e
   exact⟨w',z.sameBut hs (cne y c e)⟩
  ·obtain⟨e,n,ne,nf,d⟩:=I.pin p hp
   exact⟨(hs.2 p.1 ne).trans e,n,ne,nf,d⟩
 ·have hfn:X.fn x=true:=by
   rcases hf with z | z
   ·exact z
   ·rw[z] at hk;cases hk
  obtain⟨c,hc⟩:=I.ok.has x (.inl hk)
  obtain⟨w',z⟩:=I.cell x c hc
  refine wpAny_storeName_cell I.ok.kind hk hc z (fun h' hc' hs=>?_)
  obtain⟨oc,hoc,hocd⟩:=id z
  refine h {s with heap:=h'} ⟨I.ok,I.os,I.bare,⟨fun b o e n hb hx=>?_,fun b o e n hb hx=>?_,I.base.free,fun b o e hx=>?_,I.base.tups,I.base.frzs,I.base.tbls⟩,⟨m,hn.sameBut hs (Ne.symm (cne x c hc)),fun j y v' e1 e2 e3=>?_⟩,fun y c' e=>?_,I.free,I.freeC,fun p hp=>?_,tracked ⟨oc,hoc,I.freeC x c hc⟩ hs,by simpa using I.len⟩ ⟨c,hs,.inr hc⟩
  ·exact(hs.2 b (Nat.ne_of_lt (Nat.lt_of_lt_of_le (Heap.lt_size e) (I.ok.cab x c hfn hc)))).trans (I.base.keep b o e n hb hx)
  ·obtain⟨sl,e1⟩:=I.base.slot b o e n hb hx
   exact⟨sl,(hs.2 b (Nat.ne_of_lt (Nat.lt_of_lt_of_le (Heap.lt_size e) (I.ok.cab x c hfn hc)))).trans e1⟩
  ·obtain⟨o',e1⟩:=I.base.there b o e hx
   exact⟨o',(hs.2 b (Nat.ne_of_lt (Nat.lt_of_lt_of_le (Heap.lt_size e) (I.ok.cab x c hfn hc)))).trans e1⟩
  ·by_cases hj:j=i
   ·subst hj
    rw[hi] at e1;cases e1
    rw[List.getElem?_set_self hiσ] at e2
    cases e2
    exact⟨u,r,.inr ⟨.inl hk,c,hc,hc'⟩⟩
   ·rw[List.getElem?_set_ne (Ne.symm hj)] at e2
    obtain⟨u',r',q⟩:=hl j y v' e1 e2 e3
    refine⟨u',r',?_⟩
    rcases q with q | ⟨k,c',e,z'⟩
    ·exact .inl q
    ·refine .inr ⟨k,c',e,z'.sameBut hs ?_⟩
     rintro rfl
     exact hj (nodup_ix hN e1 (I.ok.inj _ _ _ e hc ▸ hi))
  ·by_cases hcc:c'=c
   ·subst hcc;exact⟨_,hc'⟩
   ·obtain⟨w2,z2⟩:=I.cell y c' e
    exact⟨w2,z2.sameBut hs hcc⟩
  ·obtain⟨e,n,ne,nf,d⟩:=I.pin p hp
   refine⟨(hs.2 p.1 ?_).trans e,n,ne,nf,d⟩
   intro q
   rw[q,hoc] at e
   have q':oc=p.2:=Option.some.inj e
   exact d w' (by rw[←q'];exact hocd)
theorem store_ok{M:Model}{A:Around}{E:Value→Shared→Prop}{i:Nat}{x:Str}{v:V}{u:Value}{Q:Unit→Shared→Prop}(I:Inv X pins σ H s)(hN:X.N.Nodup)(hi:X.N[i]?=some x)(hx:Loc X.env.scope x)(r:RelV v u)
  (h:∀s',Inv X pins (σ.set i (some v)) H s'→Q () s') (hf:X.fn x=true∨X.env.scope.names.lookup x=some .local:=by first | exact .inl rfl | exact .inr rfl | assumption):wpAny M A (storeName X.env x u) Q E s:=
 store_ok2 I hN hi hx r (fun s' I' _=>h s' I') hf
theorem Inv.call'{s':Shared}{ch:List Addr}(I:Inv X pins σ H s)(ho:s'.os=s.os)(u:Un (frs X.stack) ch H H' s.heap s'.heap)(hok:HOk X.prog X.w H' s'.heap)(hg:AllBare s'.gens)
  (hch:∀b∈ch,(b∈X.ex∨X.s₀.heap.objs.size≤b)∧b≠X.env.locals∧(∀x c,X.env.cells.lookup x=some c→c≠b)∧∀p∈X.pn++pins,p.1≠b):Inv X pins σ H' s':=by
 obtain⟨h',g',d',t',o'⟩:=s'
 have e:o'=s.os:=ho
 subst e
 exact I.call (g':=g') (t':=t') (d':=d') u hok hg hch
end
abbrev XK:=Value→Option Addr→Hp→Prop
abbrev St:=List (Option V)
abbrev VK:=V→Hp→Prop
abbrev TE:=St→Hp→VK→Prop
abbrev TT:=St→Hp→(Bool→Hp→Prop)→Prop
abbrev TA:=St→Hp→(List V→Hp→Prop)→Prop
structure Ends where
 nx:St→Hp→Prop
 rt:VK
 bk:St→Hp→Prop:=fun _ _=>False
 ct:St→Hp→Prop:=fun _ _=>False
abbrev TS:=Ends→St→Hp→Prop
def EP(X:Cx)(pins:List (Addr×Obj))(σ:St)(Q:VK)(u:Value)(s':Shared):Prop:=∃v H',Inv X pins σ H' s'∧RelV v u∧Q v H'
def TP(X:Cx)(pins:List (Addr×Obj))(σ:St)(Q:Bool→Hp→Prop)(b:Bool)(s':Shared):Prop:=∃H',Inv X pins σ H' s'∧Q b H'
def AP(X:Cx)(pins:List (Addr×Obj))(σ:St)(Q:List V→Hp→Prop)(us:List Value)(s':Shared):Prop:=∃vs H',Inv X pins σ H' s'∧Vals vs us∧Q vs H'
def SP(X:Cx)(pins:List (Addr×Obj))(D:Ends)(f:Flow)(s':Shared):Prop:=
 match f with
 | .next=>∃σ' H',Inv X pins σ' H' s'∧D.nx σ' H'
 | .brk=>∃σ' H',Inv X pins σ' H' s'∧D.bk σ' H'
 | .cont=>∃σ' H',Inv X pins σ' H' s'∧D.ct σ' H'
 | .ret u=>∃v σ' H',Inv X pins σ' H' s'∧RelV v u∧D.rt v H'
def PE(X:Cx)(e:Expr)(t:TE):Prop:=
 ∀(pins:List (Addr×Obj)) (s:Shared) (σ:St) (H:Hp) (Q:VK),Inv X pins σ H s→t σ H Q→wpAny (model X.prog X.w) X.A (eval e X.env) (EP X pins σ Q) X.xe s
def PT(X:Cx)(e:Expr)(t:TT):Prop:=
 ∀(pins:List (Addr×Obj)) (s:Shared) (σ:St) (H:Hp) (Q:Bool→Hp→Prop),Inv X pins σ H s→t σ H Q→wpAny (model X.prog X.w) X.A (isTrue e X.env (eval e X.env)) (TP X pins σ Q) X.xe s
def PW(X:Cx)(e:Expr)(t:TT):Prop:=
 ∀(whole:Sem Value) (pins:List (Addr×Obj)) (s:Shared) (σ:St) (H:Hp) (Q:Bool→Hp→Prop),Inv X pins σ H s→t σ H Q→wpAny (model X.prog X.w) X.A (isTrue e X.env whole) (TP X pins σ Q) X.xe s
theorem PW.pt{X:Cx}{e:Expr}{t:TT}(h:PW X e t):PT X e t:=h _
def PA(X:Cx)(es:List Expr)(t:TA):Prop:=
 ∀(pos:Pos) (pins:List (Addr×Obj)) (s:Shared) (σ:St) (H:Hp) (Q:List V→Hp→Prop),Inv X pins σ H s→t σ H Q→wpAny (model X.prog X.w) X.A (spliced (backTo pos (starEach es X.env))) (AP X pins σ Q) X.xe s
def PS(X:Cx)(st:Stmt)(t:TS):Prop:=
 ∀(pins:List (Addr×Obj)) (s:Shared) (σ:St) (H:Hp) (D:Ends),Inv X pins σ H s→t D σ H→wpAny (model X.prog X.w) X.A (exec st X.env) (SP X pins D) X.xe s
def PSs(X:Cx)(st:List Stmt)(t:TS):Prop:=
 ∀(pins:List (Addr×Obj)) (s:Shared) (σ:St) (H:Hp) (D:Ends),Inv X pins σ H s→t D σ H→wpAny (model X.prog X.w) X.A (execs st X.env) (SP X pins D) X.xe s
theorem thn{α:Type}{t:Sem α}{Q Q':α→Shared→Prop}{M:Model}{A:Around}{E:Value→Shared→Prop}{s:Shared}(h:wpAny M A t Q E s)(hQ:∀a s,Q a s→Q' a s):wpAny M A t Q' E s:=wpAny_mono h hQ fun _ _ x=>x
section
variable{X:Cx}
theorem bin{a b:Expr}{ta tb:TE}(ha:PE X a ta)(hb:PE X b tb){pins:List (Addr×Obj)}{s:Shared}{σ:St}{H:Hp}{R:V→V→Hp→Prop}(I:Inv X pins σ H s)(h:ta σ H fun x H1=>tb σ H1 fun y H2=>R x y H2)
  {α:Type} {Q:α→Shared→Prop} {f:Value→Value→Sem α}
  (hf:∀v u s2 x y H2,Inv X pins σ H2 s2→RelV x v→RelV y u→R x y H2→wpAny (model X.prog X.w) X.A (f v u) Q X.xe s2):
  wpAny (model X.prog X.w) X.A (eval a X.env) (fun v s₁=>wpAny (model X.prog X.w) X.A (eval b X.env) (fun u s₂=>wpAny (model X.prog X.w) X.A (f v u) Q X.xe s₂) X.xe s₁) X.xe s:=by
 refine thn (ha pins s σ H _ I h) fun v s1 ⟨x,H1,I1,r1,q1⟩=>?_
 refine thn (hb pins s1 σ H1 _ I1 q1) fun u s2 ⟨y,H2,I2,r2,q2⟩=>?_
 exact hf v u s2 x y H2 I2 r1 r2 q2
def tVar(i:Nat):TE:=fun σ H Q=>∃v,σ[i]?=some (some v)∧Q v H
def tC(v:V):TE:=fun _ H Q=>Q v H
theorem pe_var{i:Nat}{x:Str}{pos:Pos}(hN:X.N[i]?=some x)(hv:Vis X.env.scope x)(hd:(x==("__debug__":Str))=false:=by decide)(hcd:(x==("__classdict__":Str))=false:=by decide):PE X (.Name x pos) (tVar i):=by
 intro pins s σ H Q I h
 obtain⟨v,e,h⟩:=h
 obtain⟨m,hn,hl⟩:=I.loc
 obtain⟨u,r,l⟩:=hl i x v hN e hv
 have fin:EP X pins σ Q u s:=⟨v,H,I,r,h⟩
 rcases l with⟨hk,hm⟩ | ⟨hk,c,hc,hcell⟩
 ·exact wpAny_Name (wpAny_loadName_local I.ok.kind hk hn hm fin) hd
 ·rcases hk with hk | hk
  ·exact wpAny_Name (wpAny_loadName_cell I.ok.kind hk hc hcell fin) hd
  ·exact wpAny_Name (wpAny_loadName_free I.ok.kind hk hc hcell fin hcd) hd
theorem pe_int{i j pos}:PE X (.Constant (.int i) j pos) (tC (.int i)):=fun _ _ _ H _ I h=>wpAny_Constant_int ⟨.int i,H,I.tok _,⟨_,rfl⟩,h⟩
theorem pe_bl{b j pos}:PE X (.Constant (.bool b) j pos) (tC (.bl b)):=fun _ _ _ H _ I h=>Constant_bool ⟨.bl b,H,I,rfl,h⟩
theorem pe_non{j pos}:PE X (.Constant .none j pos) (tC .non):=fun _ _ _ H _ I h=>Constant_none ⟨.non,H,I,rfl,h⟩
theorem pe_str{x j pos}:PE X (.Constant (.str x) j pos) (tC (.str x)):=fun _ _ _ H _ I h=>Calls.Constant_str ⟨.str x,H,I.tok _,⟨_,rfl⟩,h⟩
def Gl(X:Cx)(x:Str):Prop:=X.env.kindOf x=some .globalImplicit
theorem ld_glob{E:Value→Shared→Prop}{pins:List (Addr×Obj)}{s:Shared}{σ:St}{H:Hp}{x:Str}{u:Value}{pos:Pos}{Q:Value→Shared→Prop}(I:Inv X pins σ H s)(hg:Gl X x)(hm:X.mg x=some u)(h:Q u s)
  (hd:(x==("__debug__":Str))=false:=by decide):wpAny (model X.prog X.w) X.A (eval (.Name x pos) X.env) Q E s:=
 Calls.Name_function_global I.ok.kind hg (Calls.loadGlobal_global (by rw[I.ok.glob];exact I.mod.glob.keeps I.bk) hm h) hd
theorem ld_blt{E:Value→Shared→Prop}{pins:List (Addr×Obj)}{s:Shared}{σ:St}{H:Hp}{x:Str}{u:Value}{pos:Pos}{Q:Value→Shared→Prop}(I:Inv X pins σ H s)(hg:Gl X x)(hm:X.mg x=none)(hv:bootBuiltins x=some u)(h:Q u s)
  (hn:x≠"__name__":=by decide) (hd:(x==("__debug__":Str))=false:=by decide):wpAny (model X.prog X.w) X.A (eval (.Name x pos) X.env) Q E s:=by
 obtain⟨mb,h1,h2⟩:=I.mod.blt
 exact Calls.Name_function_global I.ok.kind hg (Calls.loadGlobal_builtin (by rw[I.ok.glob];exact I.mod.glob.keeps I.bk) hm (by rw[I.ok.blt];exact h1.keeps I.bk) ((h2 x hn).trans hv) h) hd
theorem pe_glob{x:Str}{v:V}{u:Value}{pos:Pos}(hg:Gl X x)(hm:X.mg x=some u)(r:RelV v u)(hd:(x==("__debug__":Str))=false:=by decide):PE X (.Name x pos) (tC v):=
 fun _ _ _ H _ I h=>ld_glob I hg hm ⟨v,H,I,r,h⟩ hd
theorem pe_bltn{x:Str}{v:V}{u:Value}{pos:Pos}(hg:Gl X x)(hm:X.mg x=none)(hv:bootBuiltins x=some u)(r:RelV v u)(hn:x≠"__name__":=by decide)(hd:(x==("__debug__":Str))=false:=by decide):PE X (.Name x pos) (tC v):=
 fun _ _ _ H _ I h=>ld_blt I hg hm hv ⟨v,H,I,r,h⟩ hn hd
variable{a b:Expr}{ta tb:TE}{pos:Pos}
variable{tA tB':TT}{rest:List Expr}
def tAnd(t u:TT):TT:=fun σ H Q=>t σ H fun c H1=>if c=true then u σ H1 Q else Q false H1
def tOr(t u:TT):TT:=fun σ H Q=>t σ H fun c H1=>if c=true then Q true H1 else u σ H1 Q
def tNot(t:TT):TT:=fun σ H Q=>t σ H fun c H1=>Q (!c) H1
theorem pw_and1(ha:PT X a tA):PW X (.BoolOp .And [a] pos) tA:=by
 intro wh pins s σ H Q I h
 refine isTrue_and (thn (ha pins s σ H Q I h) fun c s1 e=>?_)
 cases c with
 | true=>exact isTrue_and_nil e
 | false=>exact e
theorem pw_or1(ha:PT X a tA):PW X (.BoolOp .Or [a] pos) tA:=by
 intro wh pins s σ H Q I h
 refine isTrue_or (thn (ha pins s σ H Q I h) fun c s1 e=>?_)
 cases c with
 | false=>exact isTrue_or_nil e
 | true=>exact e
theorem pw_and(ha:PT X a tA)(hb:PW X (.BoolOp .And (b::rest) pos) tB'):PW X (.BoolOp .And (a::b::rest) pos) (tAnd tA tB'):=by
 intro wh pins s σ H Q I h
 refine isTrue_and (thn (ha pins s σ H _ I h) fun c s1 ⟨H1,I1,q1⟩=>?_)
 cases c with
 | true=>exact hb wh pins s1 σ H1 Q I1 q1
 | false=>exact⟨H1,I1,q1⟩
theorem pw_or(ha:PT X a tA)(hb:PW X (.BoolOp .Or (b::rest) pos) tB'):PW X (.BoolOp .Or (a::b::rest) pos) (tOr tA tB'):=by
 intro wh pins s σ H Q I h
 refine isTrue_or (thn (ha pins s σ H _ I h) fun c s1 ⟨H1,I1,q1⟩=>?_)
 cases c with
 | true=>exact⟨H1,I1,q1⟩
 | false=>exact hb wh pins s1 σ H1 Q I1 q1
theorem pt_not(ha:PT X a tA):PT X (.UnaryOp .Not a pos) (tNot tA):=by
 intro pins s σ H Q I h
 exact isTrue_not (ha pins s σ H (fun c H1=>Q (!c) H1) I h)
theorem pe_one{op}{t:TE}(h:PE X a t):PE X (.BoolOp op [a] pos) t:=fun pins s σ H Q I hw=>BoolOp_one (h pins s σ H Q I hw)
def tIf(t:TT)(ta tb:TE):TE:=fun σ H Q=>t σ H fun c H1=>if c=true then ta σ H1 Q else tb σ H1 Q
theorem pe_ifExp{c:Expr}(hc:PT X c tA)(ha:PE X a ta)(hb:PE X b tb):PE X (.IfExp c a b pos) (tIf tA ta tb):=by
 intro pins s σ H Q I h
 refine wpAny_IfExp (thn (hc pins s σ H _ I h) fun d s1 ⟨H1,I1,q1⟩=>?_)
 cases d with
 | true=>exact ha pins s1 σ H1 Q I1 q1
 | false=>exact hb pins s1 σ H1 Q I1 q1
end
def SqL(K:PySem.W.Frag)(H:Hp)(a:Addr)(xs:List V):Prop:=
 Rd H a (.lst xs)∨
  ∃(o:Obj) (its:Array Value) (n:Nat),K.lookup a=some o∧o.cls= .type "list"∧o.dict=none∧o.data= .seq its n∧its.size≤sizeLine∧Vals xs its.toList
def SqT(K:PySem.W.Frag)(H:Hp)(a:Addr)(xs:List V):Prop:=
 Rd H a (.tup xs)∨
  ∃(o:Obj) (its:Array Value) (n:Nat),K.lookup a=some o∧o.cls= .type "tuple"∧o.data= .seq its n∧its.size≤sizeLine∧Vals xs its.toList
def absV:Value→Option V
 | .none=>some .non
 | .bool b=>some (.bl b)
 | .int i _=>some (.int i)
 | .str x _=>some (.str x)
 | .bytes b _=>some (.byt b)
 | .float b _=>some (.flt b)
 | .ref a=>some (.ref a)
 | .type n=>some (.ty n)
 | _=>none
theorem RelV.abs{x:V}{u:Value}(r:RelV x u):absV u=some x:=by
 cases x with
 | non=>cases r;rfl
 | bl _=>cases r;rfl
 | int _=>obtain⟨t,rfl⟩:=r;rfl
 | str _=>obtain⟨t,rfl⟩:=r;rfl
 | byt _=>obtain⟨t,rfl⟩:=r;rfl
 | flt _=>obtain⟨t,rfl⟩:=r;rfl
 | ref _=>cases r;rfl
 | ty _=>cases r;rfl
theorem RelV.inj{x y:V}{u:Value}(r:RelV x u)(q:RelV y u):x=y:=Option.some.inj (r.abs.symm.trans q.abs)
theorem Vals.inj:∀{xs ys:List V} {us:List Value},Vals xs us→Vals ys us→xs=ys
 | _,_,_,.nil,.nil=>rfl
 | _,_,_,.cons r t,.cons r' t'=>by rw[r.inj r',Vals.inj t t']
section
variable{X:Cx}{pins:List (Addr×Obj)}{σ:St}{H:Hp}{s:Shared}{a:Addr}{xs ys:List V}
theorem SqL.of{K:PySem.W.Frag}(h:H a=some (.lst xs)):SqL K H a xs:= .inl (.inl h)
theorem SqT.of{K:PySem.W.Frag}(h:H a=some (.tup xs)):SqT K H a xs:= .inl (.inl h)
theorem Inv.list(I:Inv X pins σ H s)(h:SqL X.K H a xs):∃its:List Value,Vals xs its∧PlainL s.heap a its.toArray∧xs.length≤sizeLine:=by
 rcases h with h | ⟨o,its,n,hk,hc,hd,hs,hz,r⟩
 ·obtain⟨z,its,n,r,e⟩:=h.ok I.hok
  exact⟨its,r,⟨_,n,e,rfl,rfl,rfl⟩,z⟩
 ·refine⟨its.toList,r,⟨o,n,I.kIn a o hk,hc,hd,by simpa using hs⟩,?_⟩
  have e:=r.length
  simp only[Array.length_toList] at e
  omega
theorem Inv.tuple(I:Inv X pins σ H s)(h:SqT X.K H a xs):∃its:List Value,Vals xs its∧IsTup s.heap a its.toArray∧xs.length≤sizeLine:=by
 rcases h with h | ⟨o,its,n,hk,hc,hs,hz,r⟩
 ·obtain⟨z,its,r,p⟩:=h.ok I.hok
  exact⟨its,r,p,z⟩
 ·refine⟨its.toList,r,⟨o,I.kIn a o hk,hc,n,by simpa using hs⟩,?_⟩
  have e:=r.length
  simp only[Array.length_toList] at e
  omega
theorem Inv.list_inj(I:Inv X pins σ H s)(h:SqL X.K H a xs)(h':SqL X.K H a ys):xs=ys:=by
 obtain⟨its,r,⟨o,n,e,_,_,d⟩,_⟩:=I.list h
 obtain⟨its',r',⟨o',n',e',_,_,d'⟩,_⟩:=I.list h'
 rw[e] at e';cases e'
 rw[d] at d'
 injection d' with d1 _
 have:its=its':=by simpa using congrArg Array.toList d1
 subst this
 exact r.inj r'
theorem Inv.tuple_inj(I:Inv X pins σ H s)(h:SqT X.K H a xs)(h':SqT X.K H a ys):xs=ys:=by
 obtain⟨its,r,⟨o,e,_,n,d⟩,_⟩:=I.tuple h
 obtain⟨its',r',⟨o',e',_,n',d'⟩,_⟩:=I.tuple h'
 rw[e] at e';cases e'
 rw[d] at d'
 injection d' with d1 _
 have:its=its':=by simpa using congrArg Array.toList d1
 subst this
 exact r.inj r'
end
abbrev Cx.wish(X:Cx)(E:Value→Shared→Prop):Cx:={X with xe:=E}
abbrev Cx.nox(X:Cx):Cx:=X.wish fun _ _=>False
theorem Cx.Ok.wish{X:Cx}(ok:X.Ok)(E:Value→Shared→Prop):(X.wish E).Ok:=
 ⟨ok.mod,ok.kind,ok.glob,ok.blt,ok.above,ok.inj,ok.has,ok.cab,ok.hd,ok.frames,ok.stk,ok.exf,ok.bs,ok.bsz,ok.noex,ok.exfs,ok.funs,ok.frf⟩
theorem Cx.Ok.unwish{X:Cx}{E:Value→Shared→Prop}(ok:(X.wish E).Ok):X.Ok:=
 ⟨ok.mod,ok.kind,ok.glob,ok.blt,ok.above,ok.inj,ok.has,ok.cab,ok.hd,ok.frames,ok.stk,ok.exf,ok.bs,ok.bsz,ok.noex,ok.exfs,ok.funs,ok.frf⟩
section
variable{X:Cx}{pins:List (Addr×Obj)}{σ:St}{H:Hp}{s:Shared}{E:Value→Shared→Prop}
theorem Inv.wish(I:Inv X pins σ H s)(E:Value→Shared→Prop):Inv (X.wish E) pins σ H s:=⟨I.ok.wish E,I.os,I.bare,I.base,I.loc,I.cell,I.free,I.freeC,I.pin,I.hok,I.len⟩
theorem Inv.unwish(I:Inv (X.wish E) pins σ H s):Inv X pins σ H s:=⟨I.ok.unwish,I.os,I.bare,I.base,I.loc,I.cell,I.free,I.freeC,I.pin,I.hok,I.len⟩
theorem SP.unwish{D:Ends}{f:Flow}{s':Shared}(h:SP (X.wish E) pins D f s'):SP X pins D f s':=by
 cases f with
 | next=>obtain⟨σ',H',I,q⟩:=h;exact⟨σ',H',I.unwish,q⟩
 | brk=>obtain⟨σ',H',I,q⟩:=h;exact⟨σ',H',I.unwish,q⟩
 | cont=>obtain⟨σ',H',I,q⟩:=h;exact⟨σ',H',I.unwish,q⟩
 | ret u=>obtain⟨v,σ',H',I,r,q⟩:=h;exact⟨v,σ',H',I.unwish,r,q⟩
theorem PSs.nox{st:List Stmt}{t:TS}(h:PSs X.nox st t):PSs X st t:=fun pins s σ H D I hw=>
 wpAny_mono (h pins s σ H D (I.wish _) hw) (fun _ _ q=>q.unwish) fun _ _ z=>False.elim z
end
section
variable{X:Cx}{st:Stmt}{rest:List Stmt}{t u:TS}{e:Expr}{te:TE}{pos:Pos}
def tNext:TS:=fun D σ H=>D.nx σ H
def tSeq(t u:TS):TS:=fun D σ H=>t {D with nx:=u D} σ H
theorem pss_nil:PSs X [] tNext:=fun _ _ σ H _ I h=>wpAny_execs_nil ⟨σ,H,I,h⟩
theorem pss_cons(h1:PS X st t)(h2:PSs X rest u):PSs X (st::rest) (tSeq t u):=by
 intro pins s σ H D I h
 refine wpAny_execs_cons (thn (h1 pins s σ H {D with nx:=u D} I h) fun f s1 q=>?_)
 cases f with
 | next=>
  obtain⟨σ',H',I',q⟩:=q
  exact h2 pins s1 σ' H' D I' q
 | ret v=>exact q
 | brk=>exact q
 | cont=>exact q
def tCont:TS:=fun D σ H=>D.ct σ H
theorem ps_continue:PS X (.Continue pos) tCont:=fun _ _ σ H _ I h=>wpAny_Continue ⟨σ,H,I,h⟩
theorem Inv.quiet{pins:List (Addr×Obj)}{σ:St}{H:Hp}{s:Shared}(I:Inv X pins σ H s):interactive X.env=false:=by simp[interactive,I.ok.kind]
def tDrop(te:TE):TS:=fun D σ H=>te σ H fun _ H1=>D.nx σ H1
theorem ps_expr(he:PE X e te)(hs:swapsWith e none pos.line X.env=pure false:=by rfl):PS X (.Expr e pos) (tDrop te):=by
 intro pins s σ H D I h
 exact wpAny_Expr_any (thn (he pins s σ H _ I h) fun v s1 ⟨x,H1,I1,r1,q1⟩=>⟨σ,H1,I1,q1⟩) I.quiet hs
def tRet(te:TE):TS:=fun D σ H=>te σ H D.rt
theorem ps_ret(he:PE X e te):PS X (.Return (some e) pos) (tRet te):=by
 intro pins s σ H D I h
 exact wpAny_Return_some (thn (he pins s σ H _ I h) fun v s1 ⟨x,H1,I1,r1,q1⟩=>⟨x,σ,H1,I1,r1,q1⟩)
def tIfS(c:TT)(t u:TS):TS:=fun D σ H=>c σ H fun b H1=>if b=true then t D σ H1 else u D σ H1
theorem ps_if{c:Expr}{a b:List Stmt}{tc:TT}(hc:PT X c tc)(ha:PSs X a t)(hb:PSs X b u):PS X (.If c a b pos) (tIfS tc t u):=by
 intro pins s σ H D I h
 refine wpAny_If (thn (hc pins s σ H _ I h) fun d s1 ⟨H1,I1,q1⟩=>?_)
 cases d with
 | true=>exact ha pins s1 σ H1 D I1 q1
 | false=>exact hb pins s1 σ H1 D I1 q1
def tNever:TS:=fun _ _ _=>False
theorem ps_never:PS X st tNever:=fun _ _ _ _ _ _ h=>h.elim
end
abbrev TG:=V→St→Hp→(St→Hp→Prop)→Prop
abbrev TGs:=List V→St→Hp→(St→Hp→Prop)→Prop
def PG(X:Cx)(target:Expr)(t:TG):Prop:=
 ∀(pins:List (Addr×Obj)) (s:Shared) (σ:St) (H:Hp) (v:V) (u:Value) (Q:St→Hp→Prop),Inv X pins σ H s→RelV v u→t v σ H Q→
  wpAny (model X.prog X.w) X.A (assign target X.env u) (fun _ s'=>∃σ' H',Inv X pins σ' H' s'∧Q σ' H') X.xe s
def PGs(X:Cx)(ts:List Expr)(t:TGs):Prop:=
 ∀(pins:List (Addr×Obj)) (s:Shared) (σ:St) (H:Hp) (vs:List V) (us:List Value) (Q:St→Hp→Prop),Inv X pins σ H s→Vals vs us→t vs σ H Q→
  wpAny (model X.prog X.w) X.A (assignInOrder ((assignEach ts X.env).map (·.2)) us) (fun _ s'=>∃σ' H',Inv X pins σ' H' s'∧Q σ' H') X.xe s
abbrev TSet:=V→V→V→Hp→(Hp→Prop)→Prop
def PSet(X:Cx)(t:TSet):Prop:=
 ∀(pins:List (Addr×Obj)) (s:Shared) (σ:St) (H:Hp) (o i v:V) (ov iv u:Value) (Q:Hp→Prop),Inv X pins σ H s→RelV o ov→RelV i iv→RelV v u→t o i v H Q→
  wpAny (model X.prog X.w) X.A (setItem ov iv u) (fun _ s'=>∃H',Inv X pins σ H' s'∧Q H') X.xe s
section
variable{X:Cx}{pos:Pos}
def gName(i:Nat):TG:=fun v σ H Q=>Q (σ.set i (some v)) H
theorem pg_name{i:Nat}{x:Str}(hN:X.N.Nodup)(hi:X.N[i]?=some x)(hx:Loc X.env.scope x)(hf:X.fn x=true∨X.env.scope.names.lookup x=some .local:=by first | exact .inl rfl | exact .inr rfl | assumption):PG X (.Name x pos) (gName i):=by
 intro pins s σ H v u Q I r h
 exact wpAny_assign_Name (store_ok I hN hi hx r (fun s' I'=>⟨_,H,I',h⟩) hf)
def gNil:TGs:=fun vs σ H Q=>vs=[]∧Q σ H
def gCons(t:TG)(u:TGs):TGs:=fun vs σ H Q=>∃v r,vs=v::r∧t v σ H fun σ' H'=>u r σ' H' Q
theorem pgs_nil:PGs X [] gNil:=by
 intro pins s σ H vs us Q I r h
 obtain⟨e,h⟩:=h
 subst e
 cases r
 exact assignInOrder_nil ⟨σ,H,I,h⟩
theorem pgs_cons{e:Expr}{es:List Expr}{t:TG}{u:TGs}(h1:PG X e t)(h2:PGs X es u)
  (hs:(assignEach (e::es) X.env).map (·.2)=assign e X.env::(assignEach es X.env).map (·.2):=by rfl):PGs X (e::es) (gCons t u):=by
 intro pins s σ H vs us Q I r h
 obtain⟨v,vr,e1,h⟩:=h
 subst e1
 cases r with
 | cons r rr=>
  rw[hs]
  refine assignInOrder_cons (thn (h1 pins s σ H _ _ _ I r h) fun _ s1 ⟨σ1,H1,I1,q1⟩=>?_)
  exact h2 pins s1 σ1 H1 _ _ Q I1 rr q1
def gTup(K:PySem.W.Frag)(n:Nat)(t:TGs):TG:=fun v σ H Q=>∃a xs,v= .ref a∧SqT K H a xs∧xs.length=n∧t xs σ H Q
theorem pg_tup{es:List Expr}{k:Nat}{t:TGs}{n:Nat}(hc:X.calm=true)(h:PGs X es t)
  (hn:(assignEach es X.env).length=n:=by rfl) (hst:(assignEach es X.env).findIdx? (·.1)=none:=by rfl):PG X (.Tuple es k pos) (gTup X.K n t):=by
 intro pins s σ H v u Q I r hw
 obtain⟨a,xs,e1,hq,hl,hw⟩:=hw
 subst e1
 cases r
 obtain⟨its,rv,ht,hz⟩:=I.tuple hq
 refine assign_Tuple_tuple (I.ok.hd hc) ht (by simp[hn,←hl,rv.length]) hst fun h' hx=>?_
 have I1:Inv X pins σ H {s with heap:=h'}:=I.kept (t':=s.toks) fun b o e=>hx b o (Nat.ne_of_lt (Heap.lt_size e)) e
 exact h pins _ σ H xs _ Q I1 (by simpa using rv) hw
def tAsg(te:TE)(g:TG):TS:=fun D σ H=>te σ H fun x H1=>g x σ H1 D.nx
theorem ps_asg{tg e:Expr}{te:TE}{g:TG}(he:PE X e te)(hg:PG X tg g)(hs:swapsWithSole [tg] e pos.line X.env=pure false:=by rfl)(hw:swappedStores [tg] e X.env=pure none:=by rfl)
  (h1:(assignEach [tg] X.env).map (·.2)=[assign tg X.env]:=by rfl):PS X (.Assign [tg] e pos) (tAsg te g):=by
 intro pins s σ H D I h
 refine wpAny_Assign_stores (thn (he pins s σ H _ I h) fun v s1 ⟨x,H1,I1,r1,q1⟩=>?_) hs hw
 rw[h1]
 exact thn (hg pins s1 σ H1 x v _ I1 r1 q1) fun _ s2 q=>q
end
section
variable{X:Cx}{pos:Pos}
def tWhile(c:TT)(tb:TS):TS:=fun D σ H=>∃W:Nat→St→Hp→Prop,(∃m,W m σ H)∧∀m σ H,W m σ H→
 c σ H fun b H1=>if b=true then ∃N:St→Hp→Prop,(∀σ' H',N σ' H'→∃m',m'<m∧W m' σ' H')∧tb {D with nx:=N,ct:=N,bk:=D.nx} σ H1 else D.nx σ H1
theorem ps_while{c:Expr}{body:List Stmt}{tc:TT}{tb:TS}(hp:PassesOwn (model X.prog X.w) X.A X.env X.xe)(hc:PT X c tc)(hb:PSs X body tb):PS X (.While c body [] pos) (tWhile tc tb):=by
 intro pins s σ H D I h
 obtain⟨W,⟨m0,w0⟩,turn⟩:=h
 refine wpAny_While (codeAny_whileLoop (fun n s'=>∃σ' H',Inv X pins σ' H' s'∧W n σ' H') ?_ m0 ⟨σ,H,I,w0⟩)
 rintro n s1 ⟨σ1,H1,I1,w1⟩
 refine wpAny_passesOwn hp (thn (hc pins s1 σ1 H1 _ I1 (turn n σ1 H1 w1)) fun b s2 ⟨H2,I2,q2⟩=>?_)
 cases b with
 | true=>
  obtain⟨N,hN,q2⟩:=q2
  rw[if_pos rfl]
  refine wpAny_passesOwn hp (thn (hb pins s2 σ1 H2 _ I2 q2) fun f s3 q3=>?_)
  cases f with
  | next=>
   obtain⟨σ3,H3,I3,n3⟩:=q3
   obtain⟨m',hm,w3⟩:=hN σ3 H3 n3
   exact⟨m',hm,σ3,H3,I3,w3⟩
  | cont=>
   obtain⟨σ3,H3,I3,n3⟩:=q3
   obtain⟨m',hm,w3⟩:=hN σ3 H3 n3
   exact⟨m',hm,σ3,H3,I3,w3⟩
  | brk=>exact q3
  | ret v=>exact q3
 | false=>
  rw[if_neg Bool.false_ne_true]
  exact wpAny_execs_nil ⟨σ1,H2,I2,q2⟩
end
structure It where
 go:Nat→Hp→Prop
 yld:Nat→Hp→V→Hp→Prop
 stop:Nat→Hp→Prop
def FpOk(X:Cx)(pins:List (Addr×Obj))(H:Hp)(b:Addr):Prop:=
 H b=none∧b≠X.env.locals∧b∉X.fs∧(b∈X.ex∨X.s₀.heap.objs.size≤b)∧(∀x c,X.env.cells.lookup x=some c→c≠b)∧∀p∈X.pn++pins,p.1≠b
theorem Inv.fpOk{X:Cx}{pins:List (Addr×Obj)}{σ:St}{H H':Hp}{s:Shared}{b:Addr}(I:Inv X pins σ H s)(hb:s.heap.objs.size≤b)(hn:H' b=none):FpOk X pins H' b:=by
 refine⟨hn,Nat.ne_of_gt (Nat.lt_of_lt_of_le I.lt hb),I.nofs hb,.inr (Nat.le_trans I.sz hb),fun x c e z=>?_,fun p hp z=>?_⟩
 ·obtain⟨v,q⟩:=I.cell x c e
  exact absurd (Nat.lt_of_lt_of_le q.lt (by rw[z];exact hb)) (Nat.lt_irrefl _)
 ·exact absurd (Nat.lt_of_lt_of_le (Heap.lt_size (I.pin p hp).1) (by rw[z];exact hb)) (Nat.lt_irrefl _)
structure Turn(P:Program)(w:World)(K:PySem.W.Frag)(tg:Expr)(J:It)(fp:List Addr)(it:Addr)(tn:Nat→Heap→Prop):Prop where
 mem:it∈fp
 obj:∀i h,tn i h→∀b∈fp,∃o,h.get? b=some o∧∀v,o.data≠ .cell v
 keep:∀i h h',tn i h→(∀b∈fp,∀o,h.get? b=some o→h'.get? b=some o)→tn i h'
 item:∀(X:Cx),X.prog=P→X.w=w→X.K=K→X.calm=true→∀(i:Nat) (pins:List (Addr×Obj)) (s:Shared) (σ:St) (H:Hp) (E:Value→Shared→Prop),Inv X pins σ H s→(∀b∈fp,FpOk X pins H b)→tn i s.heap→J.go i H→
  wpAny (model P w) X.A (pyNext (.ref it)) (fun r s1=>∃u,r=some u∧
   wpAny (model P w) X.A (letOwnedTupleGo tg (.ref it) u) (fun _ s2=>∃x H',Inv X pins σ H' s2∧RelV x u∧J.yld i H x H'∧tn (i+1) s2.heap∧∀b∈fp,H' b=none) E s1) E s
 done:∀(X:Cx),X.prog=P→X.w=w→X.K=K→X.calm=true→∀(i:Nat) (pins:List (Addr×Obj)) (s:Shared) (σ:St) (H:Hp) (E:Value→Shared→Prop),Inv X pins σ H s→(∀b∈fp,FpOk X pins H b)→tn i s.heap→J.stop i H→
  wpAny (model P w) X.A (pyNext (.ref it)) (fun r s1=>r=none∧Inv X pins σ H s1) E s
 self:∀(A:Around) (i:Nat) (s:Shared) (Q:Value→Shared→Prop) (E:Value→Shared→Prop),tn i s.heap→Q (.ref it) s→wpAny (model P w) A (pyIter (.ref it)) Q E s
abbrev TI:=St→Hp→(It→Hp→Prop)→Prop
def PIE(X:Cx)(pins:List (Addr×Obj))(σ:St)(tg:Expr)(R:It→Hp→Prop)(itv:Value)(s2:Shared):Prop:=
 ∃(it:Addr) (fp:List Addr) (tn:Nat→Heap→Prop) (J:It) (H':Hp),itv= .ref it∧Inv X pins σ H' s2∧Turn X.prog X.w X.K tg J fp it tn∧tn 0 s2.heap∧(∀b∈fp,FpOk X pins H' b)∧R J H'
def PI(X:Cx)(tg iter:Expr)(wi:TI):Prop:=
 ∀(pins:List (Addr×Obj)) (s:Shared) (σ:St) (H:Hp) (R:It→Hp→Prop),Inv X pins σ H s→wi σ H R→
  wpAny (model X.prog X.w) X.A (eval iter X.env) (fun v s1=>wpAny (model X.prog X.w) X.A (pyIter v) (PIE X pins σ tg R) X.xe s1) X.xe s
theorem go_of{M:Model}{A:Around}{E:Value→Shared→Prop}{s:Shared}{tg:Expr}{it:Addr}{u:Value}{o:Obj}{n:String}{vs:Array Value}{Q:Unit→Shared→Prop}(ho:s.heap.get? it=some o)(hc:o.cls= .type n)(hd:o.data= .fields vs)
  (hn:["enumerate","zip","dict_itemiterator","dict_reverseitemiterator","odict_iterator","itertools.zip_longest","itertools.pairwise"].contains n=false) (hQ:Q () s):wpAny M A (letOwnedTupleGo tg (.ref it) u) Q E s:=by
 unfold letOwnedTupleGo
 cases tg<;>first
  | exact wpAny_pure hQ
  |(cases u<;>first
    | exact wpAny_pure hQ
    |(refine wpAny_bind (wpAny_load ho ?_)
      rw[hc,hd]
      show wpAny M A (if (["enumerate","zip","dict_itemiterator","dict_reverseitemiterator","odict_iterator","itertools.zip_longest","itertools.pairwise"].contains n&&vs[0]?==some (rawInt _))=true then _ else _) Q E s
      rw[if_neg (by intro h;rw[hn,Bool.false_and] at h;cases h)]
      exact wpAny_pure hQ))
def Itl(K:PySem.W.Frag)(a:Addr):It:=
 ⟨fun i H=>∃xs x,SqL K H a xs∧xs[i]?=some x,fun i H x H'=>H'=H∧∀xs,SqL K H a xs→xs[i]?=some x,fun i H=>∃xs,SqL K H a xs∧xs.length≤i⟩
def Itt(K:PySem.W.Frag)(a:Addr):It:=
 ⟨fun i H=>∃xs x,SqT K H a xs∧xs[i]?=some x,fun i H x H'=>H'=H∧∀xs,SqT K H a xs→xs[i]?=some x,fun i H=>∃xs,SqT K H a xs∧xs.length≤i⟩
def Itr(lo:Int)(n:Nat):It:=⟨fun i _=>i<n,fun i H x H'=>H'=H∧x= .int (lo+i),fun i _=>n≤i⟩
theorem turn_list{P:Program}{w:World}{K:PySem.W.Frag}{tg:Expr}(a it:Addr):Turn P w K tg (Itl K a) [it] it (fun i h=>h.IsListIter it a i) where
 mem:=by simp
 obj:=fun i h st b hb=>by
  have e:b=it:=by simpa using hb
  subst e
  obtain⟨o,e,c,d⟩:=st
  exact⟨o,e,fun v z=>by rw[d] at z;cases z⟩
 keep:=fun i h h' st k=>st.at fun o e=>k it (by simp) o e
 item:=by
  intro X hP hw hK hc i pins s σ H E I hf st hg
  subst hP hw hK
  obtain⟨xs,x,hq,hx⟩:=hg
  obtain⟨its,rv,p,hz⟩:=I.list hq
  obtain⟨u,hu,ru⟩:=rv.get hx
  obtain⟨f0,f1,f2,f3,f4,f5⟩:=hf it (by simp)
  refine wpAny_pyNext_list_item st p.isList (x:=u) (by simpa using hu) fun h' st' sb=>?_
  have I1:Inv X pins σ H {s with heap:=h'}:=I.turned (t':=s.toks) (fun b o hb e=>(sb.2 b hb).trans e) f0 f1 f3 f4 f5
  obtain⟨o,e,c,d⟩:=id st'
  exact⟨u,rfl,go_of (s:={s with heap:=h'}) e c d (by decide) ⟨x,H,I1,ru,⟨rfl,fun ys hy=>by rw[I.list_inj hy hq];exact hx⟩,st',fun b hb=>(hf b hb).1⟩⟩
 done:=by
  intro X hP hw hK hc i pins s σ H E I hf st hg
  subst hP hw hK
  obtain⟨xs,hq,hx⟩:=hg
  obtain⟨its,rv,p,hz⟩:=I.list hq
  obtain⟨f0,f1,f2,f3,f4,f5⟩:=hf it (by simp)
  have hl:=rv.length
  exact wpAny_pyNext_list_end (I.ok.hd hc) st p.isList (by simp;omega) fun h' eb=>⟨rfl,I.turned (t':=s.toks) (fun b o hb e=>eb b o hb e) f0 f1 f3 f4 f5⟩
 self:=fun _ _ _ _ _ st h=>wpAny_pyIter_listiter st h
theorem turn_tuple{P:Program}{w:World}{K:PySem.W.Frag}{tg:Expr}(a it:Addr):Turn P w K tg (Itt K a) [it] it (fun i h=>h.IsTupleIter it a i) where
 mem:=by simp
 obj:=fun i h st b hb=>by
  have e:b=it:=by simpa using hb
  subst e
  obtain⟨o,e,c,d⟩:=st
  exact⟨o,e,fun v z=>by rw[d] at z;cases z⟩
 keep:=fun i h h' st k=>st.at fun o e=>k it (by simp) o e
 item:=by
  intro X hP hw hK hc i pins s σ H E I hf st hg
  subst hP hw hK
  obtain⟨xs,x,hq,hx⟩:=hg
  obtain⟨its,rv,p,hz⟩:=I.tuple hq
  obtain⟨u,hu,ru⟩:=rv.get hx
  obtain⟨f0,f1,f2,f3,f4,f5⟩:=hf it (by simp)
  refine wpAny_pyNext_tuple_item st (show s.heap.IsTuple a its.toArray from p) (x:=u) (by simpa using hu) fun h' st' sb=>?_
  have I1:Inv X pins σ H {s with heap:=h'}:=I.turned (t':=s.toks) (fun b o hb e=>(sb.2 b hb).trans e) f0 f1 f3 f4 f5
  obtain⟨o,e,c,d⟩:=id st'
  exact⟨u,rfl,go_of (s:={s with heap:=h'}) e c d (by decide) ⟨x,H,I1,ru,⟨rfl,fun ys hy=>by rw[I.tuple_inj hy hq];exact hx⟩,st',fun b hb=>(hf b hb).1⟩⟩
 done:=by
  intro X hP hw hK hc i pins s σ H E I hf st hg
  subst hP hw hK
  obtain⟨xs,hq,hx⟩:=hg
  obtain⟨its,rv,p,hz⟩:=I.tuple hq
  obtain⟨f0,f1,f2,f3,f4,f5⟩:=hf it (by simp)
  have hl:=rv.length
  exact wpAny_pyNext_tuple_end (I.ok.hd hc) st (show s.heap.IsTuple a its.toArray from p) (by simp;omega) fun h' eb=>⟨rfl,I.turned (t':=s.toks) (fun b o hb e=>eb b o hb e) f0 f1 f3 f4 f5⟩
 self:=fun _ _ _ _ _ st h=>wpAny_pyIter_tupleiter st h
theorem turn_range{P:Program}{w:World}{K:PySem.W.Frag}{tg:Expr}(it:Addr)(lo:Int)(n:Nat):Turn P w K tg (Itr lo n) [it] it (fun i h=>IsRangeIter h it (lo+(i:Nat) * 1) ((n:Int) - (i:Nat)) 1) where
 mem:=by simp
 obj:=fun i h st b hb=>by
  have e:b=it:=by simpa using hb
  subst e
  exact⟨_,st,fun v z=>by
   have z':Data.fields _=Data.cell v:=z
   cases z'⟩
 keep:=fun i h h' st k=>k it (by simp) _ st
 item:=by
  intro X hP hw hK hc i pins s σ H E I hf st hg
  subst hP hw hK
  obtain⟨f0,f1,f2,f3,f4,f5⟩:=hf it (by simp)
  have W:=Walks.range (prog:=X.prog) (w:=X.w) (I.ok.hd hc) it lo 1 n
  refine W.item i s _ _ hg st fun v h' tk hv st' kk=>?_
  obtain⟨t,rfl⟩:=hv
  have I1:Inv X pins σ H {s with heap:=h',toks:=tk}:=I.turned (fun b o hb e=>kk b o (by simpa using hb) e) f0 f1 f3 f4 f5
  refine⟨_,rfl,go_of (s:={s with heap:=h',toks:=tk}) (n:="range_iterator") st' rfl rfl (by decide) ⟨.int (lo+i),H,I1,⟨t,?_⟩,⟨rfl,rfl⟩,st',fun b hb=>(hf b hb).1⟩⟩
  rw[Int.mul_one]
 done:=by
  intro X hP hw hK hc i pins s σ H E I hf st hg
  subst hP hw hK
  obtain⟨f0,f1,f2,f3,f4,f5⟩:=hf it (by simp)
  exact wpAny_pyNext_range_end (I.ok.hd hc) st (by have:n≤i:=hg;omega) fun h' eb=>⟨rfl,I.turned (t':=s.toks) (fun b o hb e=>eb b o hb e) f0 f1 f3 f4 f5⟩
 self:=fun _ _ _ _ _ st h=>wpAny_pyIter_rangeiter st h
section
variable{X:Cx}{tg:Expr}
theorem range_it{pins:List (Addr×Obj)}{σ:St}{H:Hp}{s:Shared}{R:It→Hp→Prop}{E:Value→Shared→Prop}{lo hi:Int}{t u v:Tok}{tk:Nat}(I:Inv X pins σ H s)(h1:-(2 ^ 62)≤lo)(h2:lo<2 ^ 62)(h3:-(2 ^ 62)≤hi)(h4:hi<2 ^ 62)
  (q:R (Itr lo (hi - lo).toNat) H):wpAny (model X.prog X.w) X.A (pyIter (.ref s.heap.objs.size)) (PIE X pins σ tg R) E {s with heap:=s.heap.push {cls:= .type "range",data:= .fields #[.int lo t,.int hi u,.int 1 v]},toks:=tk}:=by
 refine wpAny_pyIter_range (IsRange.new ..) (small_one h1 h2 h3 h4) ?_
 have I1:Inv X pins σ H {s with heap:=s.heap.push {cls:= .type "range",data:= .fields #[.int lo t,.int hi u,.int 1 v]},toks:=tk}:=I.kept fun b o e=>Heap.get?_push_of_some _ e
 refine⟨(s.heap.push {cls:= .type "range",data:= .fields #[.int lo t,.int hi u,.int 1 v]}).objs.size,[(s.heap.push {cls:= .type "range",data:= .fields #[.int lo t,.int hi u,.int 1 v]}).objs.size],_,_,H,rfl,
  I1.kept (t':=tk) fun b o e=>Heap.get?_push_of_some _ e,turn_range _ lo (hi - lo).toNat,?_,fun b hb=>?_,q⟩
 ·have e1:lo+((0:Nat):Int) * 1=lo:=by simp
  have e2:(((hi - lo).toNat:Nat):Int) - ((0:Nat):Int)=Builtin.Range.rangeSize lo hi 1:=by rw[rangeSize_one];split<;>omega
  show IsRangeIter _ _ (lo+((0:Nat):Int) * 1) ((((hi - lo).toNat:Nat):Int) - ((0:Nat):Int)) 1
  rw[e1,e2]
  exact Heap.get?_push_size _ rfl
 ·have e:b=(s.heap.push {cls:= .type "range",data:= .fields #[.int lo t,.int hi u,.int 1 v]}).objs.size:=by simpa using hb
  subst e
  exact I1.fpOk (Nat.le_refl _) (I1.hok.fresh (Nat.le_refl _))
def iRng1(ta:TA):TI:=fun σ H R=>ta σ H fun vs H1=>∃j:Int,vs=[.int j]∧ -(2 ^ 62)≤j∧j<2 ^ 62∧R (Itr 0 j.toNat) H1
def iRng2(ta:TA):TI:=fun σ H R=>ta σ H fun vs H1=>∃i j:Int,vs=[.int i,.int j]∧(-(2 ^ 62)≤i∧i<2 ^ 62∧ -(2 ^ 62)≤j∧j<2 ^ 62)∧R (Itr i (j - i).toNat) H1
theorem pi_range1{a:Expr}{ta:TA}{p pos:Pos}(hg:Gl X "range")(hm:X.mg "range"=none)(ha:PA X [a] ta)(hs:starEach [a] X.env=[(false,eval a X.env)]:=by rfl):PI X tg (.Call (.Name "range" p) [a] [] pos) (iRng1 ta):=by
 intro pins s σ H R I h
 refine Call_ (ld_blt I hg hm boot_range (PyProof.Rows.callWith_type1 (thn (ha pos pins s σ H _ I h) fun us s1 ⟨vs,H1,I1,r1,q1⟩=>?_) hs rfl))
 obtain⟨j,e,q1,q2,q⟩:=q1
 subst e
 cases r1 with
 | cons r rr=>
  cases rr
  obtain⟨t,rfl⟩:=r
  exact call_range_1 (range_it I1 (by omega) (by omega) q1 q2 (by simpa using q))
theorem pi_range2{a b:Expr}{ta:TA}{p pos:Pos}(hg:Gl X "range")(hm:X.mg "range"=none)(ha:PA X [a,b] ta)(hs:starEach [a,b] X.env=[(false,eval a X.env),(false,eval b X.env)]:=by rfl)(hs2:starEach [b] X.env=[(false,eval b X.env)]:=by rfl):
  PI X tg (.Call (.Name "range" p) [a,b] [] pos) (iRng2 ta):=by
 intro pins s σ H R I h
 refine Call_ (ld_blt I hg hm boot_range (PyProof.Rows.callWith_type1 (thn (ha pos pins s σ H _ I h) fun us s1 ⟨vs,H1,I1,r1,q1⟩=>?_) (by rw[hs,hs2]) (by rw[hs2];rfl)))
 obtain⟨i,j,e,⟨q1,q2,q3,q4⟩,q⟩:=q1
 subst e
 cases r1 with
 | cons r rr=>
  cases rr with
  | cons r' rr=>
   cases rr
   obtain⟨t,rfl⟩:=r
   obtain⟨t',rfl⟩:=r'
   exact call_range_2 (range_it I1 q1 q2 q3 q4 q)
def tFor(wi:TI)(g:TG)(tb:TS):TS:=fun D σ H=>wi σ H fun J H1=>∃W:Nat→Nat→St→Hp→Prop,(∃m,W 0 m σ H1)∧∀i m σ H,W i m σ H→
 (J.stop i H∧D.nx σ H)∨(J.go i H∧∃N:St→Hp→Prop,(∀σ' H',N σ' H'→∃m',m'<m∧W (i+1) m' σ' H')∧∀x H',J.yld i H x H'→g x σ H' fun σ2 H2=>tb {D with nx:=N,ct:=N,bk:=D.nx} σ2 H2)
def pinsAt(fp:List Addr)(h:Heap):List (Addr×Obj):=fp.filterMap fun b=>(h.get? b).map fun o=>(b,o)
theorem mem_pinsAt{fp:List Addr}{h:Heap}{b:Addr}{o:Obj}(hb:b∈fp)(e:h.get? b=some o):(b,o)∈pinsAt fp h:=List.mem_filterMap.mpr ⟨b,hb,by rw[e];rfl⟩
theorem of_pinsAt{fp:List Addr}{h:Heap}{p:Addr×Obj}(hp:p∈pinsAt fp h):p.1∈fp∧h.get? p.1=some p.2:=by
 obtain⟨b,hb,e⟩:=List.mem_filterMap.mp hp
 cases q:h.get? b with
 | none=>rw[q] at e;cases e
 | some o=>
  rw[q] at e
  have e':(b,o)=p:=Option.some.inj e
  subst e'
  exact⟨hb,q⟩
theorem Inv.pinned{pins:List (Addr×Obj)}{σ:St}{H:Hp}{s:Shared}{fp:List Addr}(I:Inv X pins σ H s)(hf:∀b∈fp,FpOk X pins H b)(ho:∀b∈fp,∃o,s.heap.get? b=some o∧∀v,o.data≠ .cell v):Inv X (pins++pinsAt fp s.heap) σ H s:=
 I.pins_of fun p hp=>(List.mem_append.mp hp).elim (fun z=>I.pin p (List.mem_append_right _ z)) fun z=>by
  obtain⟨hb,e⟩:=of_pinsAt z
  obtain⟨f0,f1,f2,_⟩:=hf p.1 hb
  obtain⟨o,e',d⟩:=ho p.1 hb
  rw[e] at e';cases e'
  exact⟨e,f0,f1,f2,d⟩
theorem Inv.unpinned{pins pl:List (Addr×Obj)}{σ:St}{H:Hp}{s:Shared}(I:Inv X (pins++pl) σ H s):Inv X pins σ H s:=I.pins_of fun p hp=>I.pin p (List.mem_append_right _ (List.mem_append_left _ hp))
theorem ps_for{iter:Expr}{body:List Stmt}{wi:TI}{g:TG}{tb:TS}{pos:Pos}(hp:PassesOwn (model X.prog X.w) X.A X.env X.xe)(hc:X.calm=true)(hi:PI X tg iter wi)(hg:PG X tg g)(hb:PSs X body tb)
  (hs:∀x,foldedSetIterable iter X.env x=pure x:=by intro _;rfl):PS X (.For tg iter body [] pos) (tFor wi g tb):=by
 intro pins s σ H D I h
 refine wpAny_For (thn (hi pins s σ H _ I h) fun v s1 h1=>thn h1 fun itv s2 h2=>?_) hs
 obtain⟨it,fp,tn,J,H2,e,I2,T,st2,f2,W,⟨m0,w0⟩,turn⟩:=h2
 subst e
 have stat:∀{H':Hp},(∀b∈fp,H' b=none)→∀b∈fp,FpOk X pins H' b:=fun hn b hb=>⟨hn b hb,(f2 b hb).2⟩
 refine codeAny_forLoop_any (fun n s'=>∃i σ' H',Inv X pins σ' H' s'∧tn i s'.heap∧(∀b∈fp,H' b=none)∧W i n σ' H') ?_ m0 ⟨0,σ,H2,I2,st2,fun b hb=>(f2 b hb).1,w0⟩
 rintro n s3 ⟨i,σ3,H3,I3,st3,fr3,w3⟩
 rcases turn i n σ3 H3 w3 with⟨stop,qn⟩ | ⟨go,N,hN,step⟩
 ·refine wpAny_passesOwn hp (thn (T.done X rfl rfl rfl hc i pins s3 σ3 H3 X.xe I3 (stat fr3) st3 stop) fun r s4 ⟨hr,I4⟩=>?_)
  subst hr
  exact wpAny_execs_nil ⟨σ3,H3,I4,qn⟩
 ·refine wpAny_passesOwn hp (thn (T.item X rfl rfl rfl hc i pins s3 σ3 H3 X.xe I3 (stat fr3) st3 go) fun r s4 ⟨u,hr,h4⟩=>?_)
  subst hr
  refine wpAny_passesOwn hp (thn h4 fun _ s5 ⟨x,H5,I5,r5,y5,st5,fr5⟩=>?_)
  have I5':=I5.pinned (stat fr5) (T.obj _ _ st5)
  refine wpAny_passesOwn hp (thn (hg _ s5 σ3 H5 x u _ I5' r5 (step x H5 y5)) fun _ s6 ⟨σ6,H6,I6,q6⟩=>?_)
  refine wpAny_passesOwn hp (thn (hb _ s6 σ6 H6 _ I6 q6) fun f s7 q7=>?_)
  have again:∀{σ7:St} {H7:Hp},Inv X (pins++pinsAt fp s5.heap) σ7 H7 s7→N σ7 H7→∃m,m<n∧∃i σ' H',Inv X pins σ' H' s7∧tn i s7.heap∧(∀b∈fp,H' b=none)∧W i m σ' H':=fun{σ7 H7} I7 n7=>by
   obtain⟨m',hm,w7⟩:=hN σ7 H7 n7
   refine⟨m',hm,i+1,σ7,H7,I7.unpinned,T.keep _ _ _ st5 fun b hb o e=>(I7.pin (b,o) (List.mem_append_right _ (List.mem_append_right _ (mem_pinsAt hb e)))).1,fun b hb=>?_,w7⟩
   obtain⟨o,e,d⟩:=T.obj _ _ st5 b hb
   exact(I7.pin (b,o) (List.mem_append_right _ (List.mem_append_right _ (mem_pinsAt hb e)))).2.1
  cases f with
  | next=>obtain⟨σ7,H7,I7,n7⟩:=q7;exact again I7 n7
  | cont=>obtain⟨σ7,H7,I7,n7⟩:=q7;exact again I7 n7
  | brk=>obtain⟨σ7,H7,I7,q7⟩:=q7;exact⟨σ7,H7,I7.unpinned,q7⟩
  | ret v=>obtain⟨x7,σ7,H7,I7,r7,q7⟩:=q7;exact⟨x7,σ7,H7,I7.unpinned,r7,q7⟩
end
abbrev R2:=V→V→Hp→VK→Prop
def OpR(X:Cx)(f:Value→Value→Sem Value)(r:R2):Prop:=
 ∀(pins:List (Addr×Obj)) (s:Shared) (σ:St) (H:Hp) (x y:V) (v u:Value) (Q:VK),Inv X pins σ H s→RelV x v→RelV y u→r x y H Q→
  wpAny (model X.prog X.w) X.A (f v u) (EP X pins σ Q) X.xe s
def UnR(X:Cx)(f:Value→Sem Value)(r:V→Hp→VK→Prop):Prop:=
 ∀(pins:List (Addr×Obj)) (s:Shared) (σ:St) (H:Hp) (x:V) (v:Value) (Q:VK),Inv X pins σ H s→RelV x v→r x H Q→
  wpAny (model X.prog X.w) X.A (f v) (EP X pins σ Q) X.xe s
def CallR(X:Cx)(f:Value)(r:List V→Hp→VK→Prop):Prop:=
 ∀(pins:List (Addr×Obj)) (s:Shared) (σ:St) (H:Hp) (xs:List V) (us:List Value) (Q:VK),Inv X pins σ H s→Vals xs us→r xs H Q→
  wpAny (model X.prog X.w) X.A (call f us) (EP X pins σ Q) X.xe s
def TruR(X:Cx)(r:V→Hp→(Bool→Hp→Prop)→Prop):Prop:=
 ∀(pins:List (Addr×Obj)) (s:Shared) (σ:St) (H:Hp) (x:V) (v:Value) (Q:Bool→Hp→Prop),Inv X pins σ H s→RelV x v→r x H Q→
  wpAny (model X.prog X.w) X.A (truthy v) (TP X pins σ Q) X.xe s
def tOp(r:R2)(ta tb:TE):TE:=fun σ H Q=>ta σ H fun x H1=>tb σ H1 fun y H2=>r x y H2 Q
def tUn(r:V→Hp→VK→Prop)(ta:TE):TE:=fun σ H Q=>ta σ H fun x H1=>r x H1 Q
def rI(C:Int→Int→Prop)(g:Int→Int→V):R2:=fun x y H Q=>∃i j,x= .int i∧y= .int j∧C i j∧Q (g i j) H
def rI0(g:Int→Int→V):R2:=fun x y H Q=>∃i j,x= .int i∧y= .int j∧Q (g i j) H
def rU(g:Int→V):V→Hp→VK→Prop:=fun x H Q=>∃i,x= .int i∧Q (g i) H
section
variable{X:Cx}{a b c:Expr}{ta tb tc:TE}{pos:Pos}
theorem binT(ha:PE X a ta)(hb:PE X b tb){pins:List (Addr×Obj)}{s:Shared}{σ:St}{H:Hp}{R:V→V→Hp→Prop}(I:Inv X pins σ H s)
  (h:ta σ H fun x H1=>tb σ H1 fun y H2=>R x y H2) {Q:Value→Shared→Prop} {f:Value→Value→Sem Value}
  (hf:∀v u s2 x y H2,Inv X pins σ H2 s2→RelV x v→RelV y u→R x y H2→wpAny (model X.prog X.w) X.A (f v u) Q X.xe s2):
  wpAny (model X.prog X.w) X.A (eval a X.env) (fun v s₁=>wpAny (model X.prog X.w) X.A (eval b X.env) (fun u s₂=>wpAny (model X.prog X.w) X.A (f v u) Q X.xe s₂) X.xe s₁) X.xe s:=by
 refine thn (ha pins s σ H _ I h) fun v s1 ⟨x,H1,I1,r1,q1⟩=>?_
 refine thn (hb pins s1 σ H1 _ I1 q1) fun u s2 ⟨y,H2,I2,r2,q2⟩=>?_
 exact hf v u s2 x y H2 I2 r1 r2 q2
theorem pe_op{op:Operator}{r:R2}(ho:OpR X (binaryOp op) r)(ha:PE X a ta)(hb:PE X b tb):PE X (.BinOp a op b pos) (tOp r ta tb):=by
 intro pins s σ H Q I h
 exact wpAny_BinOp (binT ha hb I h fun v u s2 x y H2 I2 rx ry q=>ho pins s2 σ H2 x y v u Q I2 rx ry q)
theorem pe_un{op:UnaryOp}{r:V→Hp→VK→Prop}(ho:UnR X (unaryOp op) r)(ha:PE X a ta):PE X (.UnaryOp op a pos) (tUn r ta):=by
 intro pins s σ H Q I h
 exact UnaryOp_ (thn (ha pins s σ H _ I h) fun v s1 ⟨x,H1,I1,r1,q1⟩=>ho pins s1 σ H1 x v Q I1 r1 q1)
theorem opI{f:Value→Value→Sem Value}{C:Int→Int→Prop}{g:Int→Int→Int}
  (rule:∀(i j:Int) (t u:Tok) (s:Shared) (Q:Value→Shared→Prop) (E:Value→Shared→Prop),C i j→Q (.int (g i j) s.toks) {s with toks:=s.toks+1}→wpAny (model X.prog X.w) X.A (f (.int i t) (.int j u)) Q E s):
  OpR X f (rI C fun i j=> .int (g i j)):=by
 intro pins s σ H x y v u Q I rx ry h
 obtain⟨i,j,rfl,rfl,hc,q⟩:=h
 obtain⟨t,rfl⟩:=rx
 obtain⟨t',rfl⟩:=ry
 exact rule i j t t' s _ _ hc ⟨.int (g i j),H,I.tok _,⟨_,rfl⟩,q⟩
theorem opI0{f:Value→Value→Sem Value}{g:Int→Int→Int}
  (rule:∀(i j:Int) (t u:Tok) (s:Shared) (Q:Value→Shared→Prop) (E:Value→Shared→Prop),Q (.int (g i j) s.toks) {s with toks:=s.toks+1}→wpAny (model X.prog X.w) X.A (f (.int i t) (.int j u)) Q E s):
  OpR X f (rI0 fun i j=> .int (g i j)):=by
 intro pins s σ H x y v u Q I rx ry h
 obtain⟨i,j,rfl,rfl,q⟩:=h
 obtain⟨t,rfl⟩:=rx
 obtain⟨t',rfl⟩:=ry
 exact rule i j t t' s _ _ ⟨.int (g i j),H,I.tok _,⟨_,rfl⟩,q⟩
theorem opB0{f:Value→Value→Sem Value}{g:Int→Int→Bool}
  (rule:∀(i j:Int) (t u:Tok) (s:Shared) (Q:Value→Shared→Prop) (E:Value→Shared→Prop),Q (.bool (g i j)) s→wpAny (model X.prog X.w) X.A (f (.int i t) (.int j u)) Q E s):
  OpR X f (rI0 fun i j=> .bl (g i j)):=by
 intro pins s σ H x y v u Q I rx ry h
 obtain⟨i,j,rfl,rfl,q⟩:=h
 obtain⟨t,rfl⟩:=rx
 obtain⟨t',rfl⟩:=ry
 exact rule i j t t' s _ _ ⟨.bl (g i j),H,I,rfl,q⟩
def CPow(i j:Int):Prop:=0≤j∧j≤1000000∧i.natAbs<2 ^ 64
def CMul(i j:Int):Prop:=(-(2 ^ 64)<i∧i<2 ^ 64)∨(-(2 ^ 64)<j∧j<2 ^ 64)
theorem CMul.ok{i j:Int}(h:CMul i j):IntMulOk i j:=by
 rcases h with⟨h1,h2⟩ | ⟨h1,h2⟩
 ·exact .of_left (intBits_le_64 h1 h2)
 ·exact .of_right (intBits_le_64 h1 h2)
theorem op_add:OpR X (binaryOp .Add) (rI0 fun i j=> .int (i+j)):=opI0 fun _ _ _ _ _ _ _ q=>add_int q
theorem op_sub:OpR X (binaryOp .Sub) (rI0 fun i j=> .int (i - j)):=opI0 fun _ _ _ _ _ _ _ q=>sub_int q
theorem op_modN:OpR X (binaryOp .Mod) (rI (fun _ j=>j≠0) fun i j=> .int (i.fmod j)):=opI fun _ _ _ _ _ _ _ hc q=>mod_int' hc q
theorem op_pow:OpR X (binaryOp .Pow) (rI CPow fun i j=> .int (i ^ j.toNat)):=opI fun _ _ _ _ _ _ _ hc q=>pow_int_small hc.1 hc.2.1 hc.2.2 q
theorem op_and:OpR X (binaryOp .BitAnd) (rI0 fun i j=> .int (Builtin.bitAnd i j)):=opI0 fun _ _ _ _ _ _ _ q=>and_int q
theorem op_xor:OpR X (binaryOp .BitXor) (rI0 fun i j=> .int (Builtin.bitXor i j)):=opI0 fun _ _ _ _ _ _ _ q=>xor_int q
theorem unI{f:Value→Sem Value}{g:Int→Int}
  (rule:∀(i:Int) (t:Tok) (s:Shared) (Q:Value→Shared→Prop) (E:Value→Shared→Prop),Q (.int (g i) s.toks) {s with toks:=s.toks+1}→wpAny (model X.prog X.w) X.A (f (.int i t)) Q E s):
  UnR X f (rU fun i=> .int (g i)):=by
 intro pins s σ H x v Q I rx h
 obtain⟨i,rfl,q⟩:=h
 obtain⟨t,rfl⟩:=rx
 exact rule i t s _ _ ⟨.int (g i),H,I.tok _,⟨_,rfl⟩,q⟩
theorem un_neg:UnR X (unaryOp .USub) (rU fun i=> .int (-i)):=unI fun _ _ _ _ _ q=>neg_int q
end
def scal:V→V→Bool
 | .non,.non=>true | .non,.int _=>true | .int _,.non=>true | .non,.bl _=>true | .bl _,.non=>true | .non,.str _=>true | .str _,.non=>true
 | .int _,.int _=>true | .bl _,.bl _=>true | .str _,.str _=>true | .byt _,.byt _=>true
 | .int _,.str _=>true | .str _,.int _=>true | .bl _,.str _=>true | .str _,.bl _=>true
 | _,_=>false
def rEq:R2:=fun x y H Q=>scal x y=true∧Q (.bl (decide (x=y))) H
def rNe:R2:=fun x y H Q=>scal x y=true∧Q (.bl (!decide (x=y))) H
theorem dec_int{i j:Int}:decide (V.int i=V.int j)=(i==j):=by
 rw[Bool.eq_iff_iff]
 simp
theorem dec_bl{i j:Bool}:decide (V.bl i=V.bl j)=(i==j):=by
 rw[Bool.eq_iff_iff]
 simp
theorem dec_str{i j:Str}:decide (V.str i=V.str j)=(i==j):=by
 rw[Bool.eq_iff_iff]
 simp
theorem dec_byt{i j:Array UInt8}:decide (V.byt i=V.byt j)=(i.toList==j.toList):=by
 rw[Bool.eq_iff_iff]
 cases i
 cases j
 simp
section
variable{X:Cx}{a b c:Expr}{ta tb tc:TE}{pos:Pos}
theorem fin_bl{pins:List (Addr×Obj)}{σ:St}{H:Hp}{s:Shared}{Q:VK}{k k':Bool}(I:Inv X pins σ H s)(q:Q (.bl k) H)(e:k=k'):EP X pins σ Q (.bool k') s:=by
 subst e
 exact⟨.bl k,H,I,rfl,q⟩
theorem op_eq:OpR X (compareOp .Eq) rEq:=by
 intro pins s σ H x y v u Q I rx ry h
 obtain⟨hs,q⟩:=h
 cases x with
 | non=>
  cases rx
  cases y with
  | non=>cases ry;exact PySem.EqNone.eq_none_none (fin_bl I q (by simp))
  | bl j=>cases ry;exact PySem.EqNone.eq_none_bool (fin_bl I q (by simp))
  | int j=>obtain⟨t',rfl⟩:=ry;exact PySem.EqNone.eq_none_int (fin_bl I q (by simp))
  | str j=>obtain⟨t',rfl⟩:=ry;exact PySem.EqNone.eq_none_str (fin_bl I q (by simp))
  | _=>exact absurd (show false=true from hs) Bool.false_ne_true
 | bl i=>
  cases rx
  cases y with
  | non=>cases ry;exact PySem.EqNone.eq_bool_none (fin_bl I q (by simp))
  | bl j=>cases ry;exact eq_bool (fin_bl I q dec_bl)
  | str j=>obtain⟨t',rfl⟩:=ry;exact PySem.EqMixed.eq_bool_str (fin_bl I q (by simp))
  | _=>exact absurd (show false=true from hs) Bool.false_ne_true
 | int i=>
  obtain⟨t,rfl⟩:=rx
  cases y with
  | non=>cases ry;exact PySem.EqNone.eq_int_none (fin_bl I q (by simp))
  | int j=>obtain⟨t',rfl⟩:=ry;exact eq_int (fin_bl I q dec_int)
  | str j=>obtain⟨t',rfl⟩:=ry;exact PySem.EqMixed.eq_int_str (fin_bl I q (by simp))
  | _=>exact absurd (show false=true from hs) Bool.false_ne_true
 | str i=>
  obtain⟨t,rfl⟩:=rx
  cases y with
  | non=>cases ry;exact PySem.EqNone.eq_str_none (fin_bl I q (by simp))
  | bl j=>cases ry;exact PySem.EqMixed.eq_str_bool (fin_bl I q (by simp))
  | int j=>obtain⟨t',rfl⟩:=ry;exact PySem.EqMixed.eq_str_int (fin_bl I q (by simp))
  | str j=>obtain⟨t',rfl⟩:=ry;exact eq_str (fin_bl I q dec_str)
  | _=>exact absurd (show false=true from hs) Bool.false_ne_true
 | byt i=>
  obtain⟨t,rfl⟩:=rx
  cases y with
  | byt j=>obtain⟨t',rfl⟩:=ry;exact PySem.W.eq_bytes (fin_bl I q dec_byt)
  | _=>exact absurd (show false=true from hs) Bool.false_ne_true
 | _=>cases y<;>exact absurd (show false=true from hs) Bool.false_ne_true
theorem op_ne:OpR X (compareOp .NotEq) rNe:=by
 intro pins s σ H x y v u Q I rx ry h
 obtain⟨hs,q⟩:=h
 cases x with
 | non=>
  cases rx
  cases y with
  | non=>cases ry;exact PySem.EqNone.ne_none_none (fin_bl I q (by simp))
  | bl j=>cases ry;exact PySem.EqNone.ne_none_bool (fin_bl I q (by simp))
  | int j=>obtain⟨t',rfl⟩:=ry;exact PySem.EqNone.ne_none_int (fin_bl I q (by simp))
  | str j=>obtain⟨t',rfl⟩:=ry;exact PySem.EqNone.ne_none_str (fin_bl I q (by simp))
  | _=>exact absurd (show false=true from hs) Bool.false_ne_true
 | bl i=>
  cases rx
  cases y with
  | non=>cases ry;exact PySem.EqNone.ne_bool_none (fin_bl I q (by simp))
  | bl j=>cases ry;exact ne_bool (fin_bl I q (congrArg not dec_bl))
  | str j=>obtain⟨t',rfl⟩:=ry;exact PySem.EqMixed.ne_bool_str (fin_bl I q (by simp))
  | _=>exact absurd (show false=true from hs) Bool.false_ne_true
 | int i=>
  obtain⟨t,rfl⟩:=rx
  cases y with
  | non=>cases ry;exact PySem.EqNone.ne_int_none (fin_bl I q (by simp))
  | int j=>obtain⟨t',rfl⟩:=ry;exact ne_int (fin_bl I q (congrArg not dec_int))
  | str j=>obtain⟨t',rfl⟩:=ry;exact PySem.EqMixed.ne_int_str (fin_bl I q (by simp))
  | _=>exact absurd (show false=true from hs) Bool.false_ne_true
 | str i=>
  obtain⟨t,rfl⟩:=rx
  cases y with
  | non=>cases ry;exact PySem.EqNone.ne_str_none (fin_bl I q (by simp))
  | bl j=>cases ry;exact PySem.EqMixed.ne_str_bool (fin_bl I q (by simp))
  | int j=>obtain⟨t',rfl⟩:=ry;exact PySem.EqMixed.ne_str_int (fin_bl I q (by simp))
  | str j=>obtain⟨t',rfl⟩:=ry;exact ne_str (fin_bl I q (congrArg not dec_str))
  | _=>exact absurd (show false=true from hs) Bool.false_ne_true
 | byt i=>
  obtain⟨t,rfl⟩:=rx
  cases y with
  | byt j=>obtain⟨t',rfl⟩:=ry;exact PySem.W.ne_bytes (fin_bl I q (congrArg not dec_byt))
  | _=>exact absurd (show false=true from hs) Bool.false_ne_true
 | _=>cases y<;>exact absurd (show false=true from hs) Bool.false_ne_true
theorem op_lt:OpR X (compareOp .Lt) (rI0 fun i j=> .bl (decide (i<j))):=opB0 fun _ _ _ _ _ _ _ q=>lt_int q
theorem op_le:OpR X (compareOp .LtE) (rI0 fun i j=> .bl (decide (i≤j))):=opB0 fun _ _ _ _ _ _ _ q=>le_int q
theorem op_gt:OpR X (compareOp .Gt) (rI0 fun i j=> .bl (decide (j<i))):=opB0 fun _ _ _ _ _ _ _ q=>gt_int q
theorem op_ge:OpR X (compareOp .GtE) (rI0 fun i j=> .bl (decide (j≤i))):=opB0 fun _ _ _ _ _ _ _ q=>ge_int q
theorem op_in_str:OpR X (compareOp .In) (fun x y H Q=>∃i j,x= .str i∧y= .str j∧Q (.bl (!(Builtin.Str.occurrences j i 0 j.length 1).isEmpty)) H):=by
 intro pins s σ H x y v u Q I rx ry h
 obtain⟨i,j,rfl,rfl,q⟩:=h
 obtain⟨t,rfl⟩:=rx
 obtain⟨t',rfl⟩:=ry
 exact in_str (fin_bl I q rfl)
theorem op_isN:OpR X (compareOp .Is) (fun x y H Q=>y= .non∧Q (.bl (decide (x= .non))) H):=by
 intro pins s σ H x y v u Q I rx ry h
 obtain⟨rfl,q⟩:=h
 cases ry
 refine is_none_gen (fin_bl I q ?_)
 cases x<;>first
  |(cases rx;rfl)
  |(obtain⟨t,rfl⟩:=rx;rfl)
theorem op_notin_str:OpR X (compareOp .NotIn) (fun x y H Q=>∃i j,x= .str i∧y= .str j∧Q (.bl (!(!(Builtin.Str.occurrences j i 0 j.length 1).isEmpty))) H):=by
 intro pins s σ H x y v u Q I rx ry h
 obtain⟨i,j,rfl,rfl,q⟩:=h
 obtain⟨t,rfl⟩:=rx
 obtain⟨t',rfl⟩:=ry
 exact notIn_str (fin_bl I q rfl)
theorem pe_cmpR{op:CmpOp}{r:R2}(ho:OpR X (compareOp op) r)(ha:PE X a ta)(hb:PE X b tb)(hm:behindInMarks op b=false):PE X (.Compare a [op] [b] pos) (tOp r ta tb):=by
 intro pins s σ H Q I h
 exact wpAny_Compare1 (binT ha hb I h fun v u s2 x y H2 I2 rx ry q=>ho pins s2 σ H2 x y v u Q I2 rx ry q) hm
def tTest(t:TE):TT:=fun σ H Q=>t σ H fun x H'=>∃k,x= .bl k∧Q k H'
theorem pt_cmpR{op:CmpOp}{r:R2}(ho:OpR X (compareOp op) r)(ha:PE X a ta)(hb:PE X b tb)(hm:behindInMarks op b=false):PT X (.Compare a [op] [b] pos) (tTest (tOp r ta tb)):=by
 intro pins s σ H Q I h
 refine wpAny_isTrue_Compare1 (thn (ha pins s σ H _ I h) fun v s1 ⟨x,H1,I1,r1,q1⟩=>thn (hb pins s1 σ H1 _ I1 q1) fun u s2 ⟨y,H2,I2,r2,q2⟩=>
  thn (ho pins s2 σ H2 x y v u _ I2 r1 r2 q2) fun c s3 ⟨z,H3,I3,r3,k,e,q3⟩=>?_) hm
 subst e
 cases r3
 exact wpAny_truthy_bool ⟨H3,I3,q3⟩
def TruV(K:PySem.W.Frag)(x:V)(H:Hp)(k:Bool):Prop:=
 match x with
 | .non=>k=false
 | .bl b=>k=b
 | .int i=>k=(i !=0)
 | .str y=>y.length≤sizeLine∧k=((y.length:Int) !=0)
 | .byt y=>y.size≤sizeLine∧k=((y.size:Int) !=0)
 | .ref p=>(∃xs,SqL K H p xs∧k= !xs.isEmpty)∨(∃xs,SqT K H p xs∧k= !xs.isEmpty)∨∃kvs,H p=some (.dK kvs)∧k= !kvs.isEmpty
 | _=>False
theorem isEmpty_kv{κ:Type}{kvs:List (κ×V)}{vs:List (κ×Value)}(r:KV kvs vs):(!vs.isEmpty)= !kvs.isEmpty:=by
 cases r<;>rfl
theorem isEmpty_of{xs:List V}{its:List Value}(r:Vals xs its):(!its.toArray.isEmpty)= !xs.isEmpty:=by
 cases r<;>simp
theorem line63:(sizeLine:Nat)<2 ^ 63:=by rw[sizeLine_eq];decide
theorem tru_ok:TruR X (fun x H Q=>∃k,TruV X.K x H k∧Q k H):=by
 intro pins s σ H x v Q I rx h
 obtain⟨k,e,q⟩:=h
 have hl:=line63
 have hs:sizeLine=16777216:=sizeLine_eq
 cases x with
 | non=>
  cases rx
  have e':k=false:=e
  subst e'
  exact truthy_none ⟨H,I,q⟩
 | bl b=>
  cases rx
  have e':k=b:=e
  subst e'
  exact wpAny_truthy_bool ⟨H,I,q⟩
 | int i=>
  obtain⟨t,rfl⟩:=rx
  have e':k=(i !=0):=e
  subst e'
  exact PySem.P.truthy_int ⟨H,I,q⟩
 | str y=>
  obtain⟨t,rfl⟩:=rx
  obtain⟨hy,e'⟩:y.length≤sizeLine∧k=((y.length:Int) !=0):=e
  subst e'
  exact PySem.P.truthy_str (by omega) ⟨H,I.tok _,q⟩
 | byt y=>
  obtain⟨t,rfl⟩:=rx
  obtain⟨hy,e'⟩:y.size≤sizeLine∧k=((y.size:Int) !=0):=e
  subst e'
  exact PySem.W.truthy_bytes (by omega) ⟨H,I.tok _,q⟩
 | ref p=>
  cases rx
  have e':(∃xs,SqL X.K H p xs∧k= !xs.isEmpty)∨(∃xs,SqT X.K H p xs∧k= !xs.isEmpty)∨∃kvs,H p=some (.dK kvs)∧k= !kvs.isEmpty:=e
  rcases e' with⟨xs,hx,e'⟩ | ⟨xs,hx,e'⟩ | ⟨kvs,hx,e'⟩
  ·subst e'
   obtain⟨its,r,pl,hz⟩:=I.list hx
   have hlen:=r.length
   exact wpAny_truthy_list pl.isList (by simp only[List.size_toArray];omega) ⟨H,I.tok _,by rw[isEmpty_of r];exact q⟩
  ·subst e'
   obtain⟨its,r,pl,hz⟩:=I.tuple hx
   have hlen:=r.length
   exact truthy_tuple pl (by simp only[List.size_toArray];omega) ⟨H,I.tok _,by rw[isEmpty_of r];exact q⟩
  ·subst e'
   obtain⟨hz,hS,vs,r,m⟩:kvs.length≤sizeLine∧(p==sysModules)=false∧∃vs,KV kvs vs∧s.heap.DictOf (mixKind X.prog X.w) p vs:=I.hok p _ hx
   have hlen:kvs.length=vs.length:=Paired.length r
   exact wpAny_truthy_dict hS m (by omega) ⟨H,I.tok _,by rw[isEmpty_kv r];exact q⟩
 | _=>exact(show False from e).elim
theorem pt_truth(ha:PE X a ta)(he:∀whole,isTrue a X.env whole=(do let v ←whole;standAt a.pos;holding [v] (truthy v))):
  PT X a (fun σ H Q=>ta σ H fun x H'=>∃k,TruV X.K x H' k∧Q k H'):=by
 intro pins s σ H Q I h
 exact isTrue_plain (thn (ha pins s σ H _ I h) fun v s1 ⟨x,H1,I1,r1,q1⟩=>tru_ok pins s1 σ H1 x v Q I1 r1 q1) (he _)
theorem op_add_str:OpR X (binaryOp .Add) (fun x y H Q=>∃i j,x= .str i∧y= .str j∧i.length+j.length≤sizeLine∧Q (.str (i++j)) H):=by
 intro pins s σ H x y v u Q I rx ry h
 obtain⟨i,j,rfl,rfl,hz,q⟩:=h
 obtain⟨t,rfl⟩:=rx
 obtain⟨t',rfl⟩:=ry
 exact add_str (fun t' tk=>⟨.str (i++j),H,I.tok _,⟨_,rfl⟩,q⟩) hz
theorem vals1{x:V}{us:List Value}(r:Vals [x] us):∃u,us=[u]∧RelV x u:=by
 cases r with
 | cons r1 r2=>cases r2;exact⟨_,rfl,r1⟩
theorem vals2{x y:V}{us:List Value}(r:Vals [x,y] us):∃u w',us=[u,w']∧RelV x u∧RelV y w':=by
 cases r with
 | cons r1 r2=>
  cases r2 with
  | cons r3 r4=>cases r4;exact⟨_,_,rfl,r1,r3⟩
end
structure ObjM(h:Heap)(x dx C:Addr)(mA:Str→Option Value):Prop where
 obj:h.get? x=some (PySem.W.instObj C dx)
 ns:h.Ns1 dx mA
 ne:dx≠x
theorem lookIn_ns{h:Heap}{dx:Addr}{mA:Str→Option Value}(n:h.Ns1 dx mA):∃od,h.get? dx=some od∧∀name,PySem.W.lookIn name od=some (mA name):=by
 obtain⟨o,es,ep,ho,hd,hk,_,hm⟩:=n
 refine⟨o,ho,fun name=>?_⟩
 have e:=hm name
 unfold nsFind findBy at e
 rw[←Array.find?_toList] at e
 unfold PySem.W.lookIn
 rw[hd]
 dsimp only
 split
 ·rename_i y q
  rw[q] at e
  exact congrArg some e
 ·rename_i q
  rw[q] at e
  have a:es.toList.any (·.refKey)=false:=by
   rw[List.any_eq_false]
   intro y hy
   obtain⟨z,t,hkey⟩:=hk y (Array.mem_toList_iff.mp hy)
   simp[DictEntry.refKey,hkey]
  have a':¬es.toList.any (·.refKey)=true:=by rw[a];exact Bool.false_ne_true
  rw[if_neg a']
  exact congrArg some e
theorem ObjM.look{h:Heap}{x dx C:Addr}{mA:Str→Option Value}(I:ObjM h x dx C mA):∃od,PySem.W.InstAt h x (PySem.W.instObj C dx) C (some od)∧∀name,PySem.W.lookIn name od=some (mA name):=
 let ⟨od,ho,hl⟩:=lookIn_ns I.ns
 ⟨od,⟨I.obj,rfl,rfl,ho⟩,hl⟩
section
variable{prog:Program}{w:World}{A:Around}{E:Value→Shared→Prop}{s:Shared}{K:PySem.W.Frag}{x dx C f:Addr}{mA:Str→Option Value}{name:Str}{v:Value}
end
theorem RelO.some_of{v:V}{o:Option Value}(r:RelO (some v) o):∃u,o=some u∧RelV v u:=by
 cases o with
 | none=>exact(show False from r).elim
 | some u=>exact⟨u,rfl,r⟩
theorem RelO.none_of{o:Option Value}(r:RelO none o):o=none:=by
 cases o with
 | none=>rfl
 | some u=>exact(show False from r).elim
section
variable{P:Program}{w:World}{H H':Hp}{h h':Heap}{a C dx:Addr}{fs fs':List (Str×V)}
theorem ins_get(hok:HOk P w H h)(e:H a=some (.ins C dx fs)):∃mA,ObjM h a dx C mA∧(∀f,RelO (fs.lookup f) (mA f))∧PySem.Within mA (fs.map (·.1))∧fs.length≤1000∧H dx=some (.own a):=by
 obtain⟨d,z,ne,ob,mA,n,r,q⟩:=(show ObjOk P w H h a (.ins C dx fs) from hok a _ e)
 exact⟨mA,⟨ob,n,ne⟩,r,q,z,d⟩
end
structure Cls(K:PySem.W.Frag)(C:Addr):Prop where
 pg:PySem.W.plainGet K C Str.empty=true
 hd:PySem.W.hasDictIn K C=true
 po:PySem.W.plainOver K C=true
 sa:PySem.W.findIn K (.ref C) "__setattr__"=some (some (.builtin "object.__setattr__"))
theorem Cls.get{K:PySem.W.Frag}{C:Addr}(c:Cls K C)(f:Str):PySem.W.plainGet K C f=true:=c.pg
structure Con(K:PySem.W.Frag)(C:Addr)(f:Str)(v:V)(u:Value):Prop where
 at_:PySem.W.findIn K (.ref C) f=some (some u)
 rel:RelV v u
 get:PySem.W.specialIn K u "__get__"=some none
 cp:PySem.W.copiedNames.contains f=false
structure Meth(K:PySem.W.Frag)(C:Addr)(m:Str)(f:Addr):Prop where
 at_:PySem.W.findIn K (.ref C) m=some (some (.ref f))
 fn:PySem.W.isFn K (.ref f)=true
 kp:PySem.W.keepIn K (.ref f)=true
section
variable{X:Cx}{pins:List (Addr×Obj)}{σ:St}{H:Hp}{s:Shared}{a C dx:Addr}{fs:List (Str×V)}{f:Str}{v:V}{A:Around}{E:Value→Shared→Prop}
end
section
variable{X:Cx}{o e value:Expr}{f:Str}{pos pos' tpos:Pos}{ta tv:TE}
end
section
variable{X:Cx}{pins:List (Addr×Obj)}{σ:St}{H:Hp}{s:Shared}{A:Around}{E:Value→Shared→Prop}{Q:Value→Shared→Prop}{c:Value}{b:Bool}
inductive TyOf (K:PySem.W.Frag) (H:Hp):V→Value→Prop where
 | non:TyOf K H .non (.type "NoneType")
 | bl (x:Bool):TyOf K H (.bl x) (.type "bool")
 | int (i:Int):TyOf K H (.int i) (.type "int")
 | str (x:Str):TyOf K H (.str x) (.type "str")
 | flt (x:UInt64):TyOf K H (.flt x) (.type "float")
 | lst {a:Addr} {xs:List V} (e:H a=some (.lst xs)):TyOf K H (.ref a) (.type "list")
 | frz {a:Addr} {o:Obj} {xs:List V} (e:H a=some (.frz o (.lst xs))):TyOf K H (.ref a) (.type "list")
 | tup {a:Addr} {xs:List V} (e:H a=some (.tup xs)):TyOf K H (.ref a) (.type "tuple")
 | dK {a:Addr} {kvs:List (Key×V)} (e:H a=some (.dK kvs)):TyOf K H (.ref a) (.type "dict")
 | dT {a:Addr} {kvs:List (List Key×V)} (e:H a=some (.dT kvs)):TyOf K H (.ref a) (.type "dict")
 | ins {a C dx:Addr} {fs:List (Str×V)} (e:H a=some (.ins C dx fs)) (cl:Cls K C) (ha:PySem.W.findIn K (.ref C) "__class__"=some (some (.builtin "object.__class__")))
   (hn:PySem.W.specialIn K (.builtin "object.__class__") "__get__"=some (some (.builtin "getset_descriptor.__get__"))) (htk:PySem.W.takesIn K (.builtin "object.__class__")=some true)
   (hm:PySem.W.mroIn K C (.type "object")=some true):TyOf K H (.ref a) (.ref C)
theorem isinst_ok{x:V}{u t:Value}(I:Inv X pins σ H s)(rx:RelV x u)(ty:TyOf X.K H x t)(e:PySem.W.kitOne X.K t c=some b)(h:∀tk,Q (.bool b) {s with toks:=tk}):
  wpAny (model X.prog X.w) A (call (.builtin "isinstance") [u,c]) Q E s:=by
 cases ty with
 | non=>cases (show u=Value.none from rx);exact PySem.W.kia_one PySem.W.kitx_none I.kIn True.intro e (fun z=>nomatch z) h
 | bl y=>cases (show u=Value.bool y from rx);exact PySem.W.kia_one PySem.W.kitx_bool I.kIn True.intro e (fun z=>nomatch z) h
 | int i=>obtain⟨t,q⟩:=(show ∃t,u=Value.int i t from rx);cases q;exact PySem.W.kia_one PySem.W.kitx_int I.kIn True.intro e (fun z=>nomatch z) h
 | str y=>obtain⟨t,q⟩:=(show ∃t,u=Value.str y t from rx);cases q;exact PySem.W.kia_one PySem.W.kitx_str I.kIn True.intro e (fun z=>nomatch z) h
 | flt y=>obtain⟨t,q⟩:=(show ∃t,u=Value.float y t from rx);cases q;exact PySem.W.kia_one PySem.W.kitx_float I.kIn True.intro e (fun z=>nomatch z) h
 | @lst a xs ea=>
  cases (show u=Value.ref a from rx)
  obtain⟨_,_,n,_,h1⟩:=(show ObjOk X.prog X.w H s.heap a (.lst xs) from I.hok a _ ea)
  exact PySem.W.kia_one PySem.W.kitx_list I.kIn ⟨_,h1,rfl⟩ e (fun z=>nomatch z) h
 | @frz a ob xs ea=>
  cases (show u=Value.ref a from rx)
  obtain⟨_,_,_,n,_,h1⟩:=(show ObjOk X.prog X.w H s.heap a (.frz ob (.lst xs)) from I.hok a _ ea)
  exact PySem.W.kia_one PySem.W.kitx_list I.kIn ⟨_,h1,rfl⟩ e (fun z=>nomatch z) h
 | @tup a xs ea=>
  cases (show u=Value.ref a from rx)
  obtain⟨_,_,_,p⟩:=(show ObjOk X.prog X.w H s.heap a (.tup xs) from I.hok a _ ea)
  obtain⟨o,h1,h2,_⟩:=p
  exact PySem.W.kia_one PySem.W.kitx_tuple I.kIn ⟨o,h1,h2⟩ e (fun z=>nomatch z) h
 | @dK a kvs ea=>
  cases (show u=Value.ref a from rx)
  obtain⟨_,_,vs,_,p⟩:=(show ObjOk X.prog X.w H s.heap a (.dK kvs) from I.hok a _ ea)
  obtain⟨o,es,ep,h1,h2,_⟩:=p
  exact PySem.W.kia_one PySem.W.kitx_dict I.kIn ⟨o,h1,h2.1⟩ e (fun z=>nomatch z) h
 | @dT a kvs ea=>
  cases (show u=Value.ref a from rx)
  obtain⟨_,_,xs,_,o,es,ep,h1,h2,_⟩:=(show ObjOk X.prog X.w H s.heap a (.dT kvs) from I.hok a _ ea)
  exact PySem.W.kia_one PySem.W.kitx_dict I.kIn ⟨o,h1,h2.1⟩ e (fun z=>nomatch z) h
 | @ins a C dx fs ea cl ha hn htk hm=>
  cases (show u=Value.ref a from rx)
  obtain⟨mA,O,_⟩:=ins_get I.hok ea
  obtain⟨od,J,_⟩:=O.look
  exact PySem.W.kia_one (PySem.W.kitx_own (cl.get _) cl.hd ha hn htk hm) I.kIn J e (fun z=>nomatch z) h
end
structure Room(k:Nat)(A:Around):Prop where
 hd:A.handled=none
 dp:A.depth+3 * k+5<recursionLimit
 un:A.units+16 * k+200<cLine
theorem Room.mono{j k:Nat}{A:Around}(r:Room k A)(h:j≤k):Room j A:=⟨r.hd,by have:=r.dp;omega,by have:=r.un;omega⟩
theorem Room.deeper{k:Nat}{A:Around}(r:Room (k+1) A)(env:Env):Room k (A.deeper env):=
 ⟨r.hd,by have:=r.dp;show A.depth+1+3 * k+5<_;omega,by have:=r.un;show A.units+3+16 * k+200<_;omega⟩
theorem make_depth{A:Around}{C:Addr}{us:List Value}{kw:List (Str×Value)}:(A.under (.builtin "type.__call__" ⟨.ref C::us,kw⟩)).depth=A.depth+1:=by
 first | rfl | simp[Around.under,Code.weight,Code.isCreation,Code.isGuard,Code.isCaller,Code.frames,Code.isFrame,guardIds]
theorem make_units{A:Around}{C:Addr}{us:List Value}{kw:List (Str×Value)}:(A.under (.builtin "type.__call__" ⟨.ref C::us,kw⟩)).units=A.units+1:=by
 first | rfl | simp[Around.under,Code.cUnits,Code.frames,Code.isFrame]
theorem Room.make{k:Nat}{A:Around}(r:Room (k+1) A)(C:Addr)(us:List Value)(kw:List (Str×Value)):Room k (A.under (.builtin "type.__call__" ⟨.ref C::us,kw⟩)):=
 ⟨r.hd,by have:=r.dp;rw[make_depth];omega,by have:=r.un;rw[make_units];omega⟩
theorem Room.depth{k:Nat}{A:Around}(r:Room k A):A.depth<recursionLimit:=by have:=r.dp;omega
theorem Room.units{k:Nat}{A:Around}(r:Room k A):A.units+64<cLine:=by have:=r.un;omega
def tNil:TA:=fun _ H Q=>Q [] H
def tCons(ta:TE)(tr:TA):TA:=fun σ H Q=>ta σ H fun x H1=>tr σ H1 fun xs H2=>Q (x::xs) H2
section
variable{X:Cx}{e:Expr}{es:List Expr}{te:TE}{t:TA}{pos:Pos}
theorem pa_nil:PA X [] tNil:=fun _ _ _ _ H Q I h=>Calls.spliced_nil ⟨[],H,I,.nil,h⟩
theorem pa_cons(ha:PE X e te)(hr:PA X es t)(hs:starEach (e::es) X.env=(false,eval e X.env)::starEach es X.env:=by rfl):PA X (e::es) (tCons te t):=by
 intro pos pins s σ H Q I h
 rw[hs]
 show wpAny _ _ (spliced ((false,eval e X.env)::backTo pos (starEach es X.env))) _ _ s
 refine Calls.spliced_cons (thn (ha pins s σ H _ I h) fun u s1 ⟨x,H1,I1,r1,q1⟩=>?_)
 exact thn (hr pos pins s1 σ H1 _ I1 q1) fun us s2 ⟨xs,H2,I2,r2,q2⟩=>⟨x::xs,H2,I2,.cons r1 r2,q2⟩
def tTup(t:TA):TE:=fun σ H Q=>t σ H fun xs H1=>xs.length≤sizeLine∧∀p,H1 p=none→Q (.ref p) (upd H1 p (.tup xs))
def tLst(t:TA):TE:=fun σ H Q=>t σ H fun xs H1=>xs.length≤sizeLine∧∀p,H1 p=none→Q (.ref p) (upd H1 p (.lst xs))
theorem pe_tup{x1}(h:PA X es t):PE X (.Tuple es x1 pos) (tTup t):=by
 intro pins s σ H Q I hq
 refine wpAny_Tuple_spliced (thn (h pos pins s σ H _ I hq) fun us s1 ⟨xs,H1,I1,r,z,q⟩=>⟨by rw[←r.length];exact z,?_⟩)
 have hf:H1 s1.heap.objs.size=none:=I1.hok.fresh (Nat.le_refl _)
 refine⟨.ref s1.heap.objs.size,upd H1 s1.heap.objs.size (.tup xs),I1.laid (t':=s1.toks) (fun b u e=>Heap.get?_push_of_some _ e) (Nat.le_refl _) ?_,rfl,q _ hf⟩
 exact⟨z,us,r,⟨_,Heap.get?_push_size _ rfl,rfl,_,rfl⟩⟩
theorem pe_lst(h:PA X es t):PE X (.List es pos) (tLst t):=by
 intro pins s σ H Q I hq
 refine wpAny_List_spliced (thn (h pos pins s σ H _ I hq) fun us s1 ⟨xs,H1,I1,r,z,q⟩=>⟨by rw[←r.length];exact z,?_⟩)
 have hf:H1 s1.heap.objs.size=none:=I1.hok.fresh (Nat.le_refl _)
 refine⟨.ref s1.heap.objs.size,upd H1 s1.heap.objs.size (.lst xs),I1.laid (t':=s1.toks) (fun b u e=>Heap.get?_push_of_some _ e) (Nat.le_refl _) ?_,rfl,q _ hf⟩
 exact⟨z,us,0,r,Heap.get?_push_size _ rfl⟩
end
abbrev Sp:=List V→Hp→VK→XK→Prop
abbrev CXT:=List Env→Hp→Shared→XK→Value→Shared→Prop
structure Env0(P:Program)(w:World)(K:PySem.W.Frag)(mg:Str→Option Value)(base:Heap)(A:Around)(outer:List Env)(s:Shared)(H:Hp):Prop where
 frames:A.frames=some outer
 mod:Mod K mg base
 bs:∀b o,base.get? b=some o→s.heap.get? b=some o∧H b=none
 bsz:base.objs.size≤s.heap.objs.size
 funs:s.heap.FunFrames base outer
 frf:∀b∈frs outer,H b=none
 hok:HOk P w H s.heap
 bare:AllBare s.gens
def CE(outer:List Env)(P:Program)(w:World)(H:Hp)(s:Shared)(Q:VK)(u:Value)(s':Shared):Prop:=
 ∃v H',s'.os=s.os∧AllBare s'.gens∧Un (frs outer) [] H H' s.heap s'.heap∧HOk P w H' s'.heap∧RelV v u∧Q v H'
def CR(CX:CXT)(outer:List Env)(P:Program)(w:World)(H:Hp)(s:Shared)(Q:VK)(E:XK)(r:Result)(s':Shared):Prop:=
 match r with
 | .ok (.ret u)=>CE outer P w H s Q u s'
 | .ok _=>False
 | .error e=>CX outer H s E e s'
structure FnOk(P:Program)(w:World)(K:PySem.W.Frag)(mg:Str→Option Value)(base:Heap)(CX:CXT)(k:Nat)(f:Addr)(fd:FuncData)(ps:List Str)(sp:Sp):Prop where
 len:∀vs H Q E,sp vs H Q E→vs.length=ps.length
 run:∀(A:Around) (outer:List Env) (s:Shared) (H:Hp) (args:Args) (us:List Value) (vs:List V) (Q:VK) (E:XK),Room k A→Env0 P w K mg base A outer s H→BindsTo s fd args (ps.zip us)→Vals vs us→sp vs H Q E→
  codeAny (model P w) A (.call (.ref f) args) (CR CX outer P w H s Q E) s
theorem Env0.make{P:Program}{w:World}{K:PySem.W.Frag}{mg:Str→Option Value}{base:Heap}{A:Around}{outer:List Env}{s:Shared}{H:Hp}(e:Env0 P w K mg base A outer s H)(C:Addr)(us:List Value)(kw:List (Str×Value)):
  Env0 P w K mg base (A.under (.builtin "type.__call__" ⟨.ref C::us,kw⟩)) outer s H:=⟨by first | exact e.frames | (simpa[Around.under,Code.envs,Code.isFrame,pushEnvs] using e.frames),e.mod,e.bs,e.bsz,e.funs,e.frf,e.hok,e.bare⟩
section
variable{X:Cx}{pins:List (Addr×Obj)}{σ:St}{H:Hp}{s s':Shared}
theorem Inv.env0(I:Inv X pins σ H s):Env0 X.prog X.w X.K X.mg X.base X.A X.stack s H:=
 ⟨I.ok.frames,I.ok.mod,I.bs,Nat.le_trans I.ok.bsz I.sz,I.stack,I.stkFree,I.hok,I.bare⟩
theorem Inv.after{Q:VK}{u:Value}(I:Inv X pins σ H s)(h:CE X.stack X.prog X.w H s Q u s'):EP X pins σ Q u s':=by
 obtain⟨v,H',os,bare,un,hok,r,q⟩:=h
 obtain⟨hh,g,d,t,os'⟩:=s'
 obtain rfl:os'=s.os:=os
 exact⟨v,H',I.call (h':=hh) (g':=g) (d':=d) (t':=t) (ch:=[]) un hok bare (fun b z=>absurd z (by simp)),r,q⟩
end
def tCall(sp:Sp)(dvs:List V)(E:XK)(t:TA):TE:=fun σ H Q=>t σ H fun vs H1=>sp (vs++dvs) H1 Q E
def Binds(K:PySem.W.Frag)(fd:FuncData)(ps:List Str)(ds:List Value):Prop:=
 ∀(s:Shared) (us:List Value),K.In s.heap→(us++ds).length=ps.length→BindsTo s fd ⟨us,[]⟩ (ps.zip (us++ds))
theorem Binds.all{K:PySem.W.Frag}{fd:FuncData}{ps:List Str}(h:∀us:List Value,us.length=ps.length→bindArgs fd ⟨us,[]⟩=pure (ps.zip us)):Binds K fd ps []:=fun s us _ hl=>by
 rw[List.append_nil] at hl ⊢
 exact .of_eq (h us hl)
def Passes(CX:CXT)(X:Cx)(E:XK):Prop:=∀(pins:List (Addr×Obj)) (σ:St) (H:Hp) (s:Shared) (e:Value) (s':Shared),Inv X pins σ H s→CX X.stack H s E e s'→X.xe e s'
section
variable{X:Cx}{CX:CXT}{k:Nat}{f C:Addr}{fd:FuncData}{ps:List Str}{sp:Sp}{dvs:List V}{ds:List Value}{E:XK}{x m:Str}{p pos apos:Pos}{e o:Expr}{es:List Expr}{ta:TE}{t:TA}
theorem run_fn{pins:List (Addr×Obj)}{σ:St}{H:Hp}{s:Shared}{Q:VK}{us:List Value}{vs:List V}(F:FnOk X.prog X.w X.K X.mg X.base CX k f fd ps sp)(hr:Room k X.A)(hb:Binds X.K fd ps ds)(hd:Vals dvs ds)(hx:Passes CX X E)
  (I:Inv X pins σ H s) (r:Vals vs us) (h:sp (vs++dvs) H Q E):wpAny (model X.prog X.w) X.A (call (.ref f) us) (EP X pins σ Q) X.xe s:=by
 have r2:Vals (vs++dvs) (us++ds):=r.append hd
 have hl:(us++ds).length=ps.length:=by rw[←r2.length];exact F.len _ _ _ _ h
 refine wpAny_call (codeAny_mono (F.run X.A X.stack s H ⟨us,[]⟩ (us++ds) (vs++dvs) Q E hr I.env0 (hb s us I.kIn hl) r2 h) fun r s' hq=>?_)
 cases r with
 | error e=>exact hx pins σ H s e s' I hq
 | ok fl=>
  cases fl with
  | ret u=>exact I.after hq
  | next=>exact False.elim hq
  | brk=>exact False.elim hq
  | cont=>exact False.elim hq
theorem pe_call(F:FnOk X.prog X.w X.K X.mg X.base CX k f fd ps sp)(hr:Room k X.A)(hg:Gl X x)(hm:X.mg x=some (.ref f))(hk:PySem.W.keepIn X.K (.ref f)=true)(hb:Binds X.K fd ps ds)(hd:Vals dvs ds)(hx:Passes CX X E)
  (ha:PA X (e::es) t) (hdb:(x==("__debug__":Str))=false:=by decide) (he:starEach (e::es) X.env=(false,eval e X.env)::starEach es X.env:=by rfl) (hpl:(backTo pos (starEach es X.env)).any (·.1)=false:=by rfl):
  PE X (.Call (.Name x p) (e::es) [] pos) (tCall sp dvs E t):=by
 intro pins s σ H Q I h
 refine wpAny_Call_Name_kw (ld_glob I hg hm ?_ hdb)
 refine PySem.W.callWith_K (h₀:=X.base) I.ok.mod.kin hk (thn (ha pos pins s σ H _ I h) fun us s1 ⟨vs,H1,I1,r,q⟩=>⟨I1.kIn,?_⟩) he hpl
 exact run_fn F hr hb hd hx I1 r q
theorem pe_call0(F:FnOk X.prog X.w X.K X.mg X.base CX k f fd ps sp)(hr:Room k X.A)(hg:Gl X x)(hm:X.mg x=some (.ref f))(hk:PySem.W.keepIn X.K (.ref f)=true)(hb:Binds X.K fd ps ds)(hd:Vals dvs ds)(hx:Passes CX X E)
  (hdb:(x==("__debug__":Str))=false:=by decide):PE X (.Call (.Name x p) [] [] pos) (tCall sp dvs E tNil):=by
 intro pins s σ H Q I h
 refine wpAny_Call_Name_kw (ld_glob I hg hm ?_ hdb)
 exact PySem.W.callWith_K0 I.kIn hk (run_fn (us:=[]) F hr hb hd hx I .nil h)
structure Mk(K:PySem.W.Frag)(C f:Addr):Prop where
 makes:PySem.W.makesIn K C=true
 init:PySem.W.findIn K (.ref C) "__init__"=some (some (.ref f))
 fn:PySem.W.isFn K (.ref f)=true
 kp:PySem.W.keepIn K (.ref C)=true
end
section
variable{X:Cx}{CX:CXT}{k:Nat}{f C:Addr}{fd:FuncData}{ps ks:List Str}{sp:Sp}{E:XK}{x m:Str}{p pos apos kpos:Pos}{e o:Expr}{es:List Expr}{kws:List Keyword}{te ta:TE}{t tk:TA}{nm:Option Str}
structure KBinds(K:PySem.W.Frag)(fd:FuncData)(ps ks:List Str)(g:List Value→List Value→List Value)(gV:List V→List V→List V):Prop where
 to:∀(s:Shared) (us ws:List Value),K.In s.heap→(g us ws).length=ps.length→BindsTo s fd ⟨us,ks.zip ws⟩ (ps.zip (g us ws))
 rel:∀{vs:List V} {us:List Value} {zs:List V} {ws:List Value},Vals vs us→Vals zs ws→Vals (gV vs zs) (g us ws)
variable{g:List Value→List Value→List Value}{gV:List V→List V→List V}
end
structure FnScope(N P:List Str)(sc:Scope):Prop where
 kind:sc.kind= .function
 co:sc.isCoroutine=false
 gen:sc.isGenerator=false
 nd:N.Nodup
 pre:N.take P.length=P
 par:∀x∈P,sc.names.lookup x=some .local∨sc.names.lookup x=some .cell
 nofree:∀y∈sc.names,y.2≠ .free
theorem bindL_out{kindOf:Str→Option NameKind}{x:Str}:∀{binds:List (Str×Value)} {m:Str→Option Value},(∀v,(x,v)∉binds)→bindL kindOf binds m x=m x
 | [],_,_=>rfl
 |(n,v)::r,m,h=>by
  unfold bindL
  rw[bindL_out fun w hw=>h w (List.mem_cons_of_mem _ hw)]
  split
  ·have:x≠n:=by rintro rfl;exact h v List.mem_cons_self
   simp[this]
  ·rfl
theorem bindC_out{kindOf:Str→Option NameKind}{x:Str}:∀{binds:List (Str×Value)} {m:Str→Option Value},(∀v,(x,v)∉binds)→bindC kindOf binds m x=m x
 | [],_,_=>rfl
 |(n,v)::r,m,h=>by
  unfold bindC
  rw[bindC_out fun w hw=>h w (List.mem_cons_of_mem _ hw)]
  split
  ·rfl
  ·have:x≠n:=by rintro rfl;exact h v List.mem_cons_self
   simp[this]
theorem bindL_get{kindOf:Str→Option NameKind}{x:Str}{v:Value}:∀{P:List Str} {vs:List Value} {i:Nat} {m:Str→Option Value},P.Nodup→P[i]?=some x→vs[i]?=some v→kindOf x=some .local→
  bindL kindOf (P.zip vs) m x=some v
 | [],_,_,_,_,h,_,_=>by simp at h
 | _::_,[],_,_,_,_,h,_=>by simp at h
 | p::P,w::vs,0,m,nd,h1,h2,hk=>by
  simp at h1 h2;subst h1;subst h2
  show bindL kindOf ((p,w)::P.zip vs) m p=_
  unfold bindL
  rw[bindL_out fun v hv=>(List.nodup_cons.mp nd).1 (List.of_mem_zip hv).1,if_pos hk]
  simp
 | p::P,w::vs,i+1,m,nd,h1,h2,hk=>by
  show bindL kindOf ((p,w)::P.zip vs) m x=_
  unfold bindL
  exact bindL_get (i:=i) (List.nodup_cons.mp nd).2 (by simpa using h1) (by simpa using h2) hk
theorem bindC_get{kindOf:Str→Option NameKind}{x:Str}{v:Value}:∀{P:List Str} {vs:List Value} {i:Nat} {m:Str→Option Value},P.Nodup→P[i]?=some x→vs[i]?=some v→kindOf x≠some .local→
  bindC kindOf (P.zip vs) m x=some v
 | [],_,_,_,_,h,_,_=>by simp at h
 | _::_,[],_,_,_,_,h,_=>by simp at h
 | p::P,w::vs,0,m,nd,h1,h2,hk=>by
  simp at h1 h2;subst h1;subst h2
  show bindC kindOf ((p,w)::P.zip vs) m p=_
  unfold bindC
  rw[bindC_out fun v hv=>(List.nodup_cons.mp nd).1 (List.of_mem_zip hv).1,if_neg hk]
  simp
 | p::P,w::vs,i+1,m,nd,h1,h2,hk=>by
  show bindC kindOf ((p,w)::P.zip vs) m x=_
  unfold bindC
  exact bindC_get (i:=i) (List.nodup_cons.mp nd).2 (by simpa using h1) (by simpa using h2) hk
def start(N:List Str)(vs:List V):St:=vs.map some++List.replicate (N.length - vs.length) none
def cxOf(CX:CXT)(P:Program)(w:World)(K:PySem.W.Frag)(mg:Str→Option Value)(base:Heap)(N:List Str)(qual:Str)(scope:Scope)(f:Addr)(cd:Value)(A:Around)(outer:List Env)(s:Shared)(H:Hp)(E:XK):Cx where
 prog:=P
 w:=w
 K:=K
 mg:=mg
 base:=base
 A:=A.deeper (envOfC qual scope s.heap.objs.size f cd)
 N:=N
 s₀:=s
 H₀:=H
 env:=envOfC qual scope s.heap.objs.size f cd
 outer:=outer
 stack:=envOfC qual scope s.heap.objs.size f cd::outer
 ex:=[]
 calm:=true
 fn:=fun _=>true
 pn:=[]
 xe:=fun e s'=>wpAny (model P w) (A.deeper (envOfC qual scope s.heap.objs.size f cd)) (leaving (envOfC qual scope s.heap.objs.size f cd) e) (fun _ s''=>CX outer H s E e s'') (fun e' s''=>CX outer H s E e' s'') s'
theorem cell_has{sc:Scope}{n:Nat}{x:Str}(h:sc.names.lookup x=some .cell):∃c,(cellsFrom n sc.names []).lookup x=some c:=by
 have q:=PySem.W.cellsFrom_some sc.names n [] (.inl h)
 exact Option.isSome_iff_exists.mp q
theorem inv_start{CX:CXT}{P:Program}{w:World}{K:PySem.W.Frag}{mg:Str→Option Value}{base:Heap}{N ps:List Str}{qual:Str}{scope:Scope}{f:Addr}{cd:Value}{A:Around}{outer:List Env}{s s1:Shared}{H:Hp}{E:XK}{us:List Value}{vs:List V}
  (S:FnScope N ps scope) (hd:A.handled=none) (e0:Env0 P w K mg base A outer s H) (hl:vs.length=ps.length) (r:Vals vs us)
  (x:InCallC s s.heap.objs.size (bindL (envOfC qual scope s.heap.objs.size f cd).kindOf (ps.zip us) fun _=>none) (cellsFrom (s.heap.objs.size+1) scope.names []) (bindC (envOfC qual scope s.heap.objs.size f cd).kindOf (ps.zip us) fun _=>none) s1):
  Inv (cxOf CX P w K mg base N qual scope f cd A outer s H E) [] (start N vs) H s1:=by
 have hpl:ps.length≤N.length:=by have:=congrArg List.length S.pre;rw[List.length_take] at this;omega
 obtain⟨h1,tk,rfl,hk⟩:=x.done
 have noA:∀b:Addr,b∉(cxOf CX P w K mg base N qual scope f cd A outer s H E).ex:=fun b z=>absurd (show b∈([]:List Addr) from z) (by simp)
 refine⟨⟨e0.mod,S.kind,rfl,rfl,Nat.le_refl _,fun y z c h1 h2=>?_,fun y hy=>?_,fun y c _ h=>?_,fun _=>hd,Around.frames_deeper e0.frames,.inr ⟨rfl,rfl⟩,fun b z=>absurd z (noA b),e0.bs,e0.bsz,fun b _ _=>noA b,fun b z=>absurd z (noA b),e0.funs,e0.frf⟩,
  rfl,e0.bare,Un.kept hk,⟨_,x.toInCall.ns,fun i y v h1 h2 h3=>?_⟩,fun y c h=>⟨_,x.cell y c h⟩,e0.hok.fresh (Nat.le_refl _),fun y c h=>?_,fun p hp=>absurd (show p∈([]:List (Addr×Obj)) from hp) (by simp),e0.hok.kept hk,?_⟩
 ·exact name_of_addr x.apart (PySem.mem_of_lookup h1) (PySem.mem_of_lookup h2)
 ·have hy:scope.names.lookup y=some .cell∨scope.names.lookup y=some .free:=hy
  rcases hy with hy | hy
  ·exact cell_has hy
  ·exact absurd rfl (S.nofree _ (PySem.mem_of_lookup hy))
 ·exact Nat.le_of_lt (x.above y c (PySem.mem_of_lookup h))
 ·have hi:i<vs.length:=by
   unfold start at h2
   by_cases hi:i<vs.length
   ·exact hi
   ·rw[List.getElem?_append_right (by simpa using hi)] at h2
    rw[List.getElem?_replicate] at h2
    split at h2<;>cases h2
  have ha:vs[i]?=some v:=by
   unfold start at h2
   rw[List.getElem?_append_left (by simpa using hi),List.getElem?_map] at h2
   cases e:vs[i]? with
   | none=>rw[e] at h2;cases h2
   | some a=>rw[e] at h2;cases h2;rfl
  obtain⟨u,hu,rv⟩:=r.get ha
  have hp:ps[i]?=some y:=by
   rw[←S.pre,List.getElem?_take_of_lt (by omega)];exact h1
  have ndP:ps.Nodup:=by rw[←S.pre];exact S.nd.sublist (List.take_sublist _ _)
  refine⟨u,rv,?_⟩
  rcases S.par y (List.mem_of_getElem? hp) with k | k
  ·exact .inl ⟨k,bindL_get ndP hp hu k⟩
  ·obtain⟨c,e⟩:=cell_has (n:=s.heap.objs.size+1) k
   refine .inr ⟨.inl k,c,e,?_⟩
   have q:=x.cell y c e
   rw[bindC_get ndP hp hu (by show scope.names.lookup y≠_;rw[k];decide)] at q
   exact q
 ·exact e0.hok.fresh (Nat.le_of_lt (x.above y c (PySem.mem_of_lookup h)))
 ·unfold start
  show _=N.length
  rw[List.length_append,List.length_map,List.length_replicate]
  omega
theorem fn_of{CX:CXT}{P:Program}{w:World}{K:PySem.W.Frag}{mg:Str→Option Value}{base:Heap}{k:Nat}{f:Addr}{name qual:Str}{params:Arguments}{body:List Stmt}{scope:Scope}{dV kV doc pm cdv ct oc:Value}{an od:Option Addr}
  {osl:Array (Option Value)} {N ps:List Str} {sp:Sp} (lk:K.lookup f=some ⟨oc,od,.func (PySem.W.fnOf name qual params body scope dV kV doc pm an cdv ct),osl⟩) (hcd:PySem.W.codeIn K cdv qual=true) (S:FnScope N ps scope)
  (len:∀vs H Q E,sp vs H Q E→vs.length=ps.length)
  (hbody:∀(A:Around) (outer:List Env) (s:Shared) (H:Hp) (vs:List V) (Q:VK) (E:XK),Room k (A.deeper (envOfC qual scope s.heap.objs.size f cdv))→sp vs H Q E→
   ∃t,PSs (cxOf CX P w K mg base N qual scope f cdv A outer s H E) body t∧t {nx:=fun _ H'=>Q .non H',rt:=Q} (start N vs) H):
  FnOk P w K mg base CX (k+1) f (PySem.W.fnOf name qual params body scope dV kV doc pm an cdv ct) ps sp:=by
 refine⟨len,fun A outer s H args us vs Q E hr e0 hb r hsp=>?_⟩
 have hl:=len _ _ _ _ hsp
 have KX:K.In s.heap:=e0.mod.kin.keeps fun b o e=>(e0.bs b o e).1
 have lim:s.heap.NoLimit:=e0.mod.nolimit.keeps fun b o e=>(e0.bs b o e).1
 have hkind:∀y∈ps.zip us,scope.names.lookup y.1=some .local∨(scope.names.lookup y.1=some .cell∧((cellsFrom (s.heap.objs.size+1) scope.names []).lookup y.1).isSome=true):=fun⟨n,v⟩ hy=>by
  rcases S.par n (List.of_mem_zip hy).1 with q | q
  ·exact .inl q
  ·exact .inr ⟨q,PySem.W.cellsFrom_some _ _ _ (.inl q)⟩
 refine codeAny_call_function hr.depth (KX _ _ lk) rfl S.co S.gen rfl (PySem.W.codeRec_of KX hcd) (hb _ _ _ _ ?_)
 refine wpAny_newFunctionEnv_cells S.kind hkind fun env he s1 x=>?_
 subst he
 refine⟨lim.keeps x.toInCall.keep,codeAny_func ?_⟩
 obtain⟨t,ht,hq⟩:=hbody A outer s H vs Q E (hr.deeper _) hsp
 have I:Inv (cxOf CX P w K mg base N qual scope f cdv A outer s H E) [] (start N vs) H s1:=inv_start S hr.hd e0 hl r x
 refine wpAny_mono (ht [] s1 (start N vs) H _ I hq) (fun fl s' hs=>?_) fun e s' hs=>hs
 have fin:∀{σ':St} {H':Hp} {v:V} {u:Value},Inv (cxOf CX P w K mg base N qual scope f cdv A outer s H E) [] σ' H' s'→RelV v u→Q v H'→CE outer P w H s Q u s':=
  fun{σ' H' v u} J rv q=>⟨v,H',J.os,J.bare,J.base,J.hok,rv,q⟩
 cases fl with
 | ret u=>
  obtain⟨v,σ',H',J,rv,q⟩:=hs
  exact fin J rv q
 | next=>
  obtain⟨σ',H',J,q⟩:=hs
  exact fin (v:=V.non) (u:=Value.none) J rfl q
 | brk=>
  obtain⟨_,_,_,q⟩:=hs
  exact False.elim q
 | cont=>
  obtain⟨_,_,_,q⟩:=hs
  exact False.elim q
section
variable{X:Cx}{x:Str}{p pos:Pos}{e:Expr}{es:List Expr}{t:TA}{id T:String}{r:List V→Hp→VK→Prop}
def tCB(r:List V→Hp→VK→Prop)(t:TA):TE:=fun σ H Q=>t σ H fun vs H1=>r vs H1 Q
theorem pe_callB(hc:CallR X (.builtin id) r)(hg:Gl X x)(hm:X.mg x=none)(hv:bootBuiltins x=some (.builtin id))(ha:PA X (e::es) t)(hn:x≠"__name__":=by decide)(hdb:(x==("__debug__":Str))=false:=by decide)
  (he:starEach (e::es) X.env=(false,eval e X.env)::starEach es X.env:=by rfl) (hpl:(backTo pos (starEach es X.env)).any (·.1)=false:=by rfl):PE X (.Call (.Name x p) (e::es) [] pos) (tCB r t):=by
 intro pins s σ H Q I h
 refine wpAny_Call_Name_kw (ld_blt I hg hm hv ?_ hn hdb)
 exact PyProof.Rows.callWith_builtin1 (thn (ha pos pins s σ H _ I h) fun us s1 ⟨vs,H1,I1,r1,q1⟩=>hc pins s1 σ H1 vs us Q I1 r1 q1) he hpl
theorem pe_callTy(hc:CallR X (.type T) r)(hg:Gl X x)(hm:X.mg x=none)(hv:bootBuiltins x=some (.type T))(ha:PA X (e::es) t)(hn:x≠"__name__":=by decide)(hdb:(x==("__debug__":Str))=false:=by decide)
  (he:starEach (e::es) X.env=(false,eval e X.env)::starEach es X.env:=by rfl) (hpl:(backTo pos (starEach es X.env)).any (·.1)=false:=by rfl):PE X (.Call (.Name x p) (e::es) [] pos) (tCB r t):=by
 intro pins s σ H Q I h
 refine wpAny_Call_Name_kw (ld_blt I hg hm hv ?_ hn hdb)
 exact PyProof.Rows.callWith_type1 (thn (ha pos pins s σ H _ I h) fun us s1 ⟨vs,H1,I1,r1,q1⟩=>hc pins s1 σ H1 vs us Q I1 r1 q1) he hpl
end
end L2
namespace HT
open PySem PyProof.Rows
section
open PySem.SeqAt
open PySem.AutoSeq1 (wpAny_loadPart')
open PySem.MeetsSeq PySem.MeetsSeq2 PySem.MeetsSeq3
end
section
variable{prog:Program}{w:World}{A:Around}{E:Value→Shared→Prop}{s:Shared}
theorem cat_tup{t b:Addr}{vs ws:List Value}{Q:Value→Shared→Prop}(ht:IsTup s.heap t vs.toArray)(hb:IsTup s.heap b ws.toArray)(hv:vs≠[])
  (h1:ws=[]→Q (.ref t) s) (h2:ws≠[]→Q (.ref s.heap.objs.size) {s with heap:=s.heap.push {cls:= .type "tuple",data:= .seq (vs++ws).toArray}})
  (hsz:vs.length+ws.length≤sizeLine):wpAny (model prog w) A (binaryOp .Add (.ref t) (.ref b)) Q E s:=by
 obtain⟨⟨cls,dd,data,sl⟩,ho,hc,n,hd⟩:=id ht
 obtain⟨⟨cls2,dd2,data2,sl2⟩,ho2,hc2,n2,hd2⟩:=id hb
 simp only at hc hd hc2 hd2
 subst hc hd hc2 hd2
 have e:vs.toArray++ws.toArray=(vs++ws).toArray:=by simp
 by_cases hw:ws=[]
 ·exact concat_meets ⟨_,ho,rfl⟩ ⟨_,ho2,rfl⟩ noFill_tuple_add seq_tuple_add PySem.F.slot_tuple_add PySem.F.entry_tuple_add (PySem.F.args_tuple_add_2 _ _)
   (tuple_addW1 t b vs.toArray ws.toArray n n2 dd dd2 sl sl2 (by simpa using hv) (by simp[hw])) ⟨ho,ho2,h1 hw⟩
 ·refine concat_meets ⟨_,ho,rfl⟩ ⟨_,ho2,rfl⟩ noFill_tuple_add seq_tuple_add PySem.F.slot_tuple_add PySem.F.entry_tuple_add (PySem.F.args_tuple_add_2 _ _)
   (tuple_addW2 t b vs.toArray ws.toArray n n2 dd dd2 sl sl2 (by simpa using hv) (by simpa using hw) (by rw[List.size_toArray,List.size_toArray];exact hsz)) ⟨ho,ho2,?_⟩
  rw[e]
  exact h2 hw
def sIx(n d:Nat):Option Int→Nat
 | none=>d
 | some v=>if v<0 then(v+(n:Int)).toNat else min v.toNat n
theorem sIx_le(n d:Nat)(hd:d≤n)(o:Option Int):sIx n d o≤n:=by
 cases o with
 | none=>exact hd
 | some v=>
  show(if v<0 then(v+(n:Int)).toNat else min v.toNat n)≤n
  by_cases hv:v<0
  ·rw[if_pos hv];omega
  ·rw[if_neg hv];exact Nat.min_le_right _ _
theorem clip_eq(v:Int)(n d:Nat):(if v<0 then max (v+(n:Int)) 0 else min v (n:Int))=((sIx n d (some v):Nat):Int):=by
 show(if v<0 then max (v+(n:Int)) 0 else min v (n:Int))=(((if v<0 then(v+(n:Int)).toNat else min v.toNat n):Nat):Int)
 by_cases hv:v<0
 ·simp only[if_pos hv];omega
 ·simp only[if_neg hv];omega
theorem adjust_gen(lo hi:Option Int)(n:Nat):Builtin.Slice.sliceAdjust lo hi 1 (n:Int)=(((sIx n 0 lo:Nat):Int),((sIx n n hi:Nat):Int)):=by
 have h1:¬((1:Int)<0):=by omega
 unfold Builtin.Slice.sliceAdjust
 simp only[h1,if_false]
 refine Prod.ext ?_ ?_
 ·cases lo with
  | none=>rfl
  | some v=>exact clip_eq v n 0
 ·cases hi with
  | none=>rfl
  | some v=>exact clip_eq v n n
theorem places_gen(i j:Nat):Builtin.Slice.slicePlaces (i:Int) (j:Int) 1=j - i:=by
 unfold Builtin.Slice.slicePlaces
 have h1:(1:Int) >0:=by omega
 simp only[h1,if_true,Int.ediv_one]
 split<;>omega
theorem slicePart_{v:Value}{o:Option Int}{Q:Option Int→Shared→Prop}(p:IsPart v o)(h:Q o s):wpAny (model prog w) A (Builtin.Slice.slicePartIndex v) Q E s:=by
 cases p with
 | none=>exact slicePart_none h
 | int i t=>exact slicePart_int h
theorem sliceApplied_gen{sl:Addr}{vl vu:Value}{lo hi:Option Int}{n:Nat}{Q:Int×Int×Nat→Shared→Prop}(hs:s.heap.IsSliceOf sl vl vu .none)(pl:IsPart vl lo)(pu:IsPart vu hi)
  (h:Q (((sIx n 0 lo:Nat):Int),1,sIx n n hi - sIx n 0 lo) s):wpAny (model prog w) A (Builtin.Slice.sliceApplied (.ref sl) (pure (n:Int))) Q E s:=by
 obtain⟨os,hos,hcs,hds⟩:=id hs
 unfold Builtin.Slice.sliceApplied Builtin.Slice.sliceFields
 refine wpAny_bind (wpAny_bind (wpAny_field hos hds (x:=vl) rfl (wpAny_bind (wpAny_field hos hds (x:=vu) rfl (wpAny_bind (wpAny_field hos hds (x:= .none) rfl (wpAny_pure ?_)))))))
 refine wpAny_bind (slicePart_none ?_)
 show wpAny _ _ (if ((1:Int)==0)=true then _ else _) _ _ s
 rw[if_neg (by decide)]
 refine wpAny_bind (slicePart_ pl (wpAny_bind (slicePart_ pu (wpAny_bind (wpAny_pure ?_)))))
 show wpAny _ _ (match Builtin.Slice.sliceAdjust lo hi 1 (n:Int) with | (lo,hi)=>pure (lo,(1:Int),Builtin.Slice.slicePlaces lo hi 1)) _ _ s
 rw[adjust_gen lo hi n]
 show wpAny _ _ (pure (((sIx n 0 lo:Nat):Int),(1:Int),Builtin.Slice.slicePlaces ((sIx n 0 lo:Nat):Int) ((sIx n n hi:Nat):Int) 1)) _ _ s
 rw[places_gen]
 exact wpAny_pure h
theorem pick_gen(xs:Array Value)(i k:Nat):((List.range k).filterMap fun(m:Nat)=>xs[((i:Int)+(m:Int) * 1).toNat]?).toArray=((xs.toList.drop i).take k).toArray:=by
 have e:(fun(m:Nat)=>xs[((i:Int)+(m:Int) * 1).toNat]?)=fun m=>xs[i+m]?:=by
  funext m
  have:((i:Int)+(m:Int) * 1).toNat=i+m:=by omega
  rw[this]
 rw[e]
 have:=pick_run xs i k
 rw[List.filterMap_map] at this
 have e2:((fun x=>xs[x]?) ∘ fun x=>i+x)=fun m=>xs[i+m]?:=rfl
 rw[e2] at this
 rw[this]
theorem getItem_tuple_cut{t sl:Addr}{items:Array Value}{vl vu:Value}{lo hi:Option Int}{Q:Value→Shared→Prop}(ht:IsTup s.heap t items)(hs:s.heap.IsSliceOf sl vl vu .none)(pl:IsPart vl lo)(pu:IsPart vu hi)
  (hw:¬(sIx items.size 0 lo=0∧sIx items.size items.size hi=items.size))
  (h:Q (.ref s.heap.objs.size) {s with heap:=s.heap.push {cls:= .type "tuple",data:= .seq ((items.toList.drop (sIx items.size 0 lo)).take (sIx items.size items.size hi - sIx items.size 0 lo)).toArray}})
  (hsz:items.size≤sizeLine):wpAny (model prog w) A (getItem (.ref t) (.ref sl)) Q E s:=by
 have htake:sizeOk (.seq ((items.toList.drop (sIx items.size 0 lo)).take (sIx items.size items.size hi - sIx items.size 0 lo)).toArray):=by
  show((items.toList.drop (sIx items.size 0 lo)).take (sIx items.size items.size hi - sIx items.size 0 lo)).toArray.size≤sizeLine
  rw[List.size_toArray,List.length_take,List.length_drop,Array.length_toList]
  omega
 have hj:sIx items.size items.size hi≤items.size:=sIx_le _ _ (Nat.le_refl _) hi
 obtain⟨os,hos,hcs,hds⟩:=id hs
 have hTs:s.TypeIs (.ref sl) "slice":=⟨os,hos,hcs⟩
 unfold getItem
 try with_reducible refine wpAny_holding ?_
 first | refine wpAny_bind (wpAny_pure ?_) | skip
 refine wpAny_bind (wpAny_sequenceKey ht.typeIs (by decide) ?_)
 refine wpAny_bind (wpAny_callSpecial?_slot (name:=Str.ofString "__getitem__") ht.typeIs PyProof.Rows.slot_tuple_getitem
  (wpAny_call_entry PyProof.Rows.slot_tuple_getitem ht.typeIs entry_tuple_getitem ?_ (args_tuple_getitem _ _)))
 show wpAny _ _ (Builtin.Tuple.tupleItemsOf (.ref t) >>=_) _ _ s
 refine wpAny_bind (tupleItemsOf_ ht ?_)
 refine wpAny_bind (wpAny_typeOf hTs ?_)
 rw[if_pos (by decide)]
 refine wpAny_bind (sliceApplied_gen hs pl pu ?_)
 have hno:¬((((sIx items.size 0 lo:Nat):Int)==0&&(1:Int)==1&&(sIx items.size items.size hi - sIx items.size 0 lo)==items.size)=true):=by
  intro q
  rw[Bool.and_eq_true,Bool.and_eq_true] at q
  have q1:((sIx items.size 0 lo:Nat):Int)=0:=eq_of_beq q.1.1
  have q2:sIx items.size items.size hi - sIx items.size 0 lo=items.size:=eq_of_beq q.2
  exact hw ⟨by omega,by omega⟩
 show wpAny _ _ (if (((sIx items.size 0 lo:Nat):Int)==0&&(1:Int)==1&&(sIx items.size items.size hi - sIx items.size 0 lo)==items.size)=true then _ else _) _ _ s
 rw[if_neg hno,pick_gen]
 first
  | exact wpAny_bind (m:=Builtin.Tuple.tupleExact _) (wpAny_newObj_type (wpAny_pure ⟨_,rfl,wpAny_pure h⟩) htake)
  | exact wpAny_bind (m:=Builtin.Tuple.tupleExact _) (wpAny_newObj_type (wpAny_bind (wpAny_pure (wpAny_pure ⟨_,rfl,wpAny_pure h⟩))) htake)
  | exact wpAny_bind (wpAny_bind (m:=Builtin.Tuple.tupleExact _) (wpAny_newObj_type (wpAny_pure (wpAny_pure ⟨_,rfl,wpAny_pure h⟩)) htake))
  | exact wpAny_bind (wpAny_bind (m:=Builtin.Tuple.tupleExact _) (wpAny_newObj_type (wpAny_pure ⟨_,rfl,wpAny_pure h⟩) htake))
end
end HT
namespace L2
open PySem PySem.Spec PyProof.Rows
abbrev TO:=St→Hp→(Option Int→Hp→Prop)→Prop
def PO(X:Cx)(e:Option Expr)(t:TO):Prop:=
 ∀(pins:List (Addr×Obj)) (s:Shared) (σ:St) (H:Hp) (Q:Option Int→Hp→Prop),Inv X pins σ H s→t σ H Q→
  wpAny (model X.prog X.w) X.A (evalPart e X.env) (fun u s'=>∃o H',Inv X pins σ H' s'∧IsPart u o∧Q o H') X.xe s
def tNoPart:TO:=fun _ H Q=>Q none H
def tPart(t:TE):TO:=fun σ H Q=>t σ H fun x H1=>∃i,x= .int i∧Q (some i) H1
section
variable{X:Cx}{e:Expr}{te:TE}{lo hi:Option Expr}{tl th:TO}{pos p2:Pos}
theorem po_none:PO X none tNoPart:=by
 intro pins s σ H Q I h
 rw[evalPart_none]
 exact wpAny_pure ⟨none,H,I,.none,h⟩
theorem po_some(h:PE X e te):PO X (some e) (tPart te):=by
 intro pins s σ H Q I hw
 rw[evalPart_some]
 refine thn (h pins s σ H _ I hw) fun u s1 ⟨x,H1,I1,r1,q1⟩=>?_
 obtain⟨i,rfl,q⟩:=q1
 obtain⟨t,rfl⟩:=r1
 exact⟨some i,H1,I1,.int i t,q⟩
def SlR(X:Cx)(r:V→Option Int→Option Int→Hp→VK→Prop):Prop:=
 ∀(pins:List (Addr×Obj)) (s:Shared) (σ:St) (H:Hp) (x:V) (v vl vu:Value) (lo hi:Option Int) (sl:Addr) (Q:VK),Inv X pins σ H s→RelV x v→s.heap.IsSliceOf sl vl vu .none→IsPart vl lo→IsPart vu hi→r x lo hi H Q→
  ∃T id,typeLookup (.type T) "__getitem__"=pure (some (.builtin id))∧s.TypeIs v T∧wpAny (model X.prog X.w) X.A (getItem v (.ref sl)) (EP X pins σ Q) X.xe s
def tSl(r:V→Option Int→Option Int→Hp→VK→Prop)(te:TE)(tl th:TO):TE:=fun σ H Q=>te σ H fun x H1=>tl σ H1 fun l H2=>th σ H2 fun u H3=>r x l u H3 Q
theorem pe_slice{r:V→Option Int→Option Int→Hp→VK→Prop}(hr:SlR X r)(he:PE X e te)(hl:PO X lo tl)(hu:PO X hi th):PE X (.Subscript e (.Slice lo hi none p2) pos) (tSl r te tl th):=by
 intro pins s σ H Q I h
 refine Subscript_ (thn (he pins s σ H _ I h) fun v s1 ⟨x,H1,I1,r1,q1⟩=>?_)
 refine wpAny_Slice (thn (hl pins s1 σ H1 _ I1 q1) fun vl s2 ⟨l,H2,I2,pl,q2⟩=>thn (hu pins s2 σ H2 _ I2 q2) fun vu s3 ⟨u,H3,I3,pu,q3⟩=>?_)
 rw[evalPart_none]
 refine wpAny_pure ?_
 have I4:Inv X pins σ H3 {s3 with heap:=s3.heap.push {cls:= .type "slice",data:= .fields #[vl,vu,.none]}}:=I3.kept (t':=s3.toks) fun b ob q=>Heap.get?_push_of_some _ q
 obtain⟨T,id,hT,ht,hg⟩:=hr pins {s3 with heap:=s3.heap.push {cls:= .type "slice",data:= .fields #[vl,vu,.none]}} σ H3 x v vl vu l u s3.heap.objs.size Q I4 r1 (Heap.IsSliceOf.new ..) pl pu q3
 show wpAny (model X.prog X.w) X.A (subscriptTail e (.Slice lo hi none p2) v (.ref s3.heap.objs.size)) (EP X pins σ Q) X.xe {s3 with heap:=s3.heap.push {cls:= .type "slice",data:= .fields #[vl,vu,.none]}}
 exact tail_any (ops:=[.ref s3.heap.objs.size,v]) ht hT hg (by with_unfolding_all rfl)
def cutV(xs:List V)(lo hi:Option Int):List V:=(xs.drop (HT.sIx xs.length 0 lo)).take (HT.sIx xs.length xs.length hi - HT.sIx xs.length 0 lo)
theorem cutV_length(xs:List V)(lo hi:Option Int):(cutV xs lo hi).length≤xs.length:=by
 unfold cutV
 rw[List.length_take,List.length_drop]
 omega
def rSlT(K:PySem.W.Frag):V→Option Int→Option Int→Hp→VK→Prop:=fun x lo hi H Q=>∃a xs,x= .ref a∧SqT K H a xs∧
 ¬(HT.sIx xs.length 0 lo=0∧HT.sIx xs.length xs.length hi=xs.length)∧∀p,H p=none→Q (.ref p) (upd H p (.tup (cutV xs lo hi)))
theorem sl_tup:SlR X (rSlT X.K):=by
 intro pins s σ H x v vl vu lo hi sl Q I rx hs pl pu h
 obtain⟨a,xs,rfl,hx,hw,q⟩:=h
 cases rx
 obtain⟨its,r,ht,hz⟩:=I.tuple hx
 have hlen:its.toArray.size=xs.length:=by rw[List.size_toArray];exact r.length.symm
 refine⟨"tuple",_,PyProof.Rows.slot_tuple_getitem.lookup,ht.typeIs,?_⟩
 refine HT.getItem_tuple_cut ht hs pl pu (by rw[hlen];exact hw) ?_ (by rw[hlen];exact hz)
 rw[hlen]
 refine⟨.ref s.heap.objs.size,_,I.laid (t':=s.toks) (o:= .tup (cutV xs lo hi)) (fun b ob q=>Heap.get?_push_of_some _ q) (Nat.le_refl _) ?_,rfl,q _ (I.hok.fresh (Nat.le_refl _))⟩
 exact⟨Nat.le_trans (cutV_length xs lo hi) hz,_,(r.drop (HT.sIx xs.length 0 lo)).take (HT.sIx xs.length xs.length hi - HT.sIx xs.length 0 lo),IsTup.new _ _⟩
def rCatT(K:PySem.W.Frag):R2:=fun x y H Q=>∃a b xs ys,x= .ref a∧y= .ref b∧SqT K H a xs∧SqT K H b ys∧xs≠[]∧xs.length+ys.length≤sizeLine∧
 (ys=[]→Q (.ref a) H)∧(ys≠[]→∀p,H p=none→Q (.ref p) (upd H p (.tup (xs++ys))))
theorem Vals.nil_iff{xs:List V}{us:List Value}(r:Vals xs us):us=[]↔xs=[]:=by
 cases r with
 | nil=>simp
 | cons _ _=>simp
theorem op_catT:OpR X (binaryOp .Add) (rCatT X.K):=by
 intro pins s σ H x y v u Q I rx ry h
 obtain⟨a,b,xs,ys,rfl,rfl,ha,hb,hx,hz,q1,q2⟩:=h
 cases rx
 cases ry
 obtain⟨its,r1,p1,_⟩:=I.tuple ha
 obtain⟨its2,r2,p2,_⟩:=I.tuple hb
 refine HT.cat_tup p1 p2 (fun z=>hx (r1.nil_iff.mp z)) (fun z=>⟨.ref a,H,I,rfl,q1 (r2.nil_iff.mp z)⟩) (fun z=>?_) (by rw[←r1.length,←r2.length];exact hz)
 refine⟨.ref s.heap.objs.size,_,I.laid (t':=s.toks) (o:= .tup (xs++ys)) (fun b ob q=>Heap.get?_push_of_some _ q) (Nat.le_refl _) ?_,rfl,q2 (fun w=>z (r2.nil_iff.mpr w)) _ (I.hok.fresh (Nat.le_refl _))⟩
 exact⟨by rw[List.length_append];exact hz,_,r1.append r2,IsTup.new _ _⟩
end
def ixN(n:Nat)(i:Int):Option Nat:=if 0≤i then(if i<n then some i.toNat else none) else if -(n:Int)≤i then some (i+n).toNat else none
def atI{α:Type}(xs:List α)(i:Int):Option α:=(ixN xs.length i).bind fun j=>xs[j]?
theorem ixN_seq{n:Nat}{i:Int}{j:Nat}(h:ixN n i=some j):seqIndex? i n=some j∧j<n∧ -(n:Int)≤i∧i<n:=by
 unfold ixN at h
 by_cases h0:0≤i
 ·rw[if_pos h0] at h
  by_cases h1:i<n
  ·rw[if_pos h1] at h
   have e:i.toNat=j:=Option.some.inj h
   exact⟨by rw[seqIndex_of h0 h1,e],by omega,by omega,h1⟩
  ·rw[if_neg h1] at h;cases h
 ·rw[if_neg h0] at h
  by_cases h1:-(n:Int)≤i
  ·rw[if_pos h1] at h
   have e:(i+n).toNat=j:=Option.some.inj h
   exact⟨by rw[seqIndex_neg (by omega) h1,e],by omega,h1,by omega⟩
  ·rw[if_neg h1] at h;cases h
theorem atI_get{α:Type}{xs:List α}{i:Int}{v:α}(h:atI xs i=some v):∃j,seqIndex? i xs.length=some j∧xs[j]?=some v∧j<xs.length∧ -(xs.length:Int)≤i∧i<xs.length:=by
 unfold atI at h
 cases e:ixN xs.length i with
 | none=>rw[e] at h;cases h
 | some j=>
  rw[e] at h
  obtain⟨h1,h2,h3,h4⟩:=ixN_seq e
  exact⟨j,h1,h,h2,h3,h4⟩
theorem atI_nat{α:Type}{xs:List α}{j:Nat}{v:α}(h:xs[j]?=some v):atI xs (j:Int)=some v:=by
 have hj:j<xs.length:=(List.getElem?_eq_some_iff.mp h).1
 have e:ixN xs.length (j:Int)=some j:=by
  unfold ixN
  rw[if_pos (by omega),if_pos (by omega)];simp
 unfold atI;rw[e];exact h
theorem atI_last{α:Type}(xs:List α)(v:α):atI (xs++[v]) (-1)=some v:=by
 have hl:(xs++[v]).length=xs.length+1:=by simp
 have e:ixN (xs++[v]).length (-1)=some xs.length:=by
  unfold ixN
  rw[hl,if_neg (by decide),if_pos (by omega)]
  congr 1
  omega
 unfold atI
 rw[e]
 show(xs++[v])[xs.length]?=some v
 simp
def PlainIx(b:Expr):Prop:=∀o i,subscripted b false o i=operate [o,i] (getItem o i)
def IxR(X:Cx)(r:R2):Prop:=
 ∀(value slice:Expr) (pins:List (Addr×Obj)) (s:Shared) (σ:St) (H:Hp) (x y:V) (v u:Value) (Q:VK),Inv X pins σ H s→RelV x v→RelV y u→r x y H Q→
  subscripted slice false v u=operate [v,u] (getItem v u)→wpAny (model X.prog X.w) X.A (subscriptTail value slice v u) (EP X pins σ Q) X.xe s
def MtR(X:Cx)(id:String)(r:V→List V→Hp→VK→Prop):Prop:=
 ∀(pins:List (Addr×Obj)) (s:Shared) (σ:St) (H:Hp) (x:V) (xs:List V) (v:Value) (us:List Value) (Q:VK),Inv X pins σ H s→RelV x v→Vals xs us→r x xs H Q→
  wpAny (model X.prog X.w) X.A (call (.builtin id) (v::us)) (EP X pins σ Q) X.xe s
section
variable{X:Cx}{a b:Expr}{ta tb:TE}{pos:Pos}
theorem pe_ix{r:R2}(hr:IxR X r)(ha:PE X a ta)(hb:PE X b tb)(hs:PlainIx b):PE X (.Subscript a b pos) (tOp r ta tb):=by
 intro pins s σ H Q I h
 exact Subscript_ (binT ha hb I h fun v u s2 x y H2 I2 rx ry q=>hr a b pins s2 σ H2 x y v u Q I2 rx ry q (hs _ _))
def rIxL(K:PySem.W.Frag):R2:=fun x y H Q=>∃p xs i v,x= .ref p∧y= .int i∧SqL K H p xs∧atI xs i=some v∧Q v H
def rIxT(K:PySem.W.Frag):R2:=fun x y H Q=>∃p xs i v,x= .ref p∧y= .int i∧SqT K H p xs∧atI xs i=some v∧Q v H
def rIxS:R2:=fun x y H Q=>∃z i c,x= .str z∧y= .int i∧z.length≤sizeLine∧atI z.cps.toList i=some c∧Q (.str ⟨#[c]⟩) H
theorem ix_list:IxR X (rIxL X.K):=by
 intro value slice pins s σ H x y v u Q I rx ry h hs
 obtain⟨p,xs,i,z,rfl,rfl,hq,he,q⟩:=h
 cases rx
 obtain⟨t,rfl⟩:=ry
 obtain⟨its,r,pl,hz⟩:=I.list hq
 obtain⟨j,h1,h2,h3,h4,h5⟩:=atI_get he
 obtain⟨w,ew,rw'⟩:=r.get h2
 have hl:=r.length
 have hn:=line63
 have fin:EP X pins σ Q w s:=⟨z,H,I,rw',q⟩
 by_cases h0:0≤i
 ·have hj:i.toNat=j:=by
   rw[seqIndex_of h0 h5] at h1
   exact Option.some.inj h1
  exact item_listR pl.isList h0 (by omega) (by rw[hj];simpa using ew) fin hs
 ·have hj:(i+(its.toArray.size:Int)).toNat=j:=by
   rw[seqIndex_neg (by omega) h4] at h1
   rw[List.size_toArray,←hl]
   exact Option.some.inj h1
  exact subscriptTail_builtinR (x:=w) pl.isList.typeIs slot_list_getitem.lookup
   (wpAny_getItem_list_neg (Q:=fun r s'=>r=w∧EP X pins σ Q r s') pl.isList (by omega) (by rw[List.size_toArray]<;>omega) (by omega) (by rw[hj];simpa using ew) ⟨rfl,fin⟩) hs
theorem ix_tup:IxR X (rIxT X.K):=by
 intro value slice pins s σ H x y v u Q I rx ry h hs
 obtain⟨p,xs,i,z,rfl,rfl,hq,he,q⟩:=h
 cases rx
 obtain⟨t,rfl⟩:=ry
 obtain⟨its,r,pl,hz⟩:=I.tuple hq
 obtain⟨j,h1,h2,h3,h4,h5⟩:=atI_get he
 obtain⟨w,ew,rw'⟩:=r.get h2
 have hl:=r.length
 have hn:=line63
 have fin:EP X pins σ Q w s:=⟨z,H,I,rw',q⟩
 exact subscriptTail_builtinR (x:=w) pl.typeIs slot_tuple_getitem.lookup
  (getItem_tuple (j:=j) (Q:=fun r s'=>r=w∧EP X pins σ Q r s') pl (by omega) (by omega) (by rw[List.size_toArray,←hl];exact h1) (by simpa using ew) ⟨rfl,fin⟩) hs
theorem ix_str:IxR X rIxS:=by
 intro value slice pins s σ H x y v u Q I rx ry h hs
 obtain⟨z,i,c,rfl,rfl,hz,he,q⟩:=h
 obtain⟨t,rfl⟩:=rx
 obtain⟨t',rfl⟩:=ry
 obtain⟨j,h1,h2,h3,h4,h5⟩:=atI_get he
 have hl:z.cps.toList.length=z.length:=by simp[Str.length]
 rw[hl] at h1 h4 h5
 have hn:=line63
 exact tail_any (typeIs_str s z t) slot_str_getitem.lookup (getItem_str (c:=c) (by
  have e1:decide (i< -(2 ^ 63:Int))=false:=decide_eq_false (by omega)
  have e2:decide (i ≥ 2 ^ 63)=false:=decide_eq_false (by omega)
  rw[e1,e2,Bool.or_false]) (by rw[h1];simpa using h2) ⟨.str ⟨#[c]⟩,H,I.tok _,⟨_,rfl⟩,q⟩) hs
theorem mapSeq_set(its:List Value)(n j:Nat)(u:Value):Obj.mapSeq (·.setIfInBounds j u) {cls:= .type "list",data:= .seq its.toArray n}={cls:= .type "list",data:= .seq (its.set j u).toArray n}:=by
 simp[Obj.mapSeq]
theorem Inv.lst{pins:List (Addr×Obj)}{σ:St}{H:Hp}{s:Shared}{p:Addr}{xs:List V}(I:Inv X pins σ H s)(h:H p=some (.lst xs)):
  ∃(its:List Value) (n:Nat),Vals xs its∧s.heap.get? p=some {cls:= .type "list",data:= .seq its.toArray n}∧xs.length≤sizeLine:=by
 obtain⟨z,its,n,r,e⟩:=I.hok p _ h
 exact⟨its,n,r,e,z⟩
theorem Inv.lstUpd{pins:List (Addr×Obj)}{σ:St}{H:Hp}{s:Shared}{p:Addr}{xs ys:List V}{its its':List Value}{n n':Nat}{f:Obj→Obj}(I:Inv X pins σ H s)(h:H p=some (.lst xs))
  (ho:s.heap.get? p=some {cls:= .type "list",data:= .seq its.toArray n}) (hf:f {cls:= .type "list",data:= .seq its.toArray n}={cls:= .type "list",data:= .seq its'.toArray n'}) (r:Vals ys its') (hz:ys.length≤sizeLine) (t:Nat):
  Inv X pins σ (upd H p (.lst ys)) {s with heap:=s.heap.update p f,toks:=t}:=by
 have e:(s.heap.update p f).get? p=some {cls:= .type "list",data:= .seq its'.toArray n'}:=by
  rw[Heap.get?_update_self f ho (by rw[hf]<;>rfl),hf]
 refine I.write (x:=p) (e:=p) (by rw[h];trivial) (.inl rfl) (fun b u hb q=>(Heap.get?_update_other _ _ (Ne.symm hb)).trans q) ⟨_,e⟩ ?_
 exact⟨hz,its',n',r,e⟩
def rSetL:V→V→V→Hp→(Hp→Prop)→Prop:=fun o i v H Q=>∃p xs k j,o= .ref p∧i= .int k∧H p=some (.lst xs)∧ixN xs.length k=some j∧Q (upd H p (.lst (xs.set j v)))
theorem set_list:PSet X rSetL:=by
 intro pins s σ H o i v ov iv u Q I ro ri rv h
 obtain⟨p,xs,k,j,rfl,rfl,hp,hj,q⟩:=h
 cases ro
 obtain⟨t,rfl⟩:=ri
 obtain⟨its,n,r,ho,hz⟩:=I.lst hp
 obtain⟨h1,h2,h3,h4⟩:=ixN_seq hj
 have hl:=r.length
 have hn:=line63
 have I':Inv X pins σ (upd H p (.lst (xs.set j v))) {s with heap:=s.heap.update p (Obj.mapSeq (·.setIfInBounds j u))}:=
  I.lstUpd hp ho (mapSeq_set its n j u) (r.set rv j) (by rw[List.length_set];exact hz) s.toks
 by_cases h0:0≤k
 ·have hk:k.toNat=j:=by
   rw[seqIndex_of h0 h4] at h1
   exact Option.some.inj h1
  exact PySem.W.ki_setAt ho h0 (by omega) (by rw[List.size_toArray,←hl];exact h4) (by rw[hk];exact⟨_,I',q⟩)
 ·have hk:(k+(its.toArray.size:Int)).toNat=j:=by
   rw[seqIndex_neg (by omega) h3] at h1
   rw[List.size_toArray,←hl]
   exact Option.some.inj h1
  exact PySem.W.ki_setBack ho (by omega) (by rw[List.size_toArray,←hl];exact h3) (by omega) (by rw[hk];exact⟨_,I',q⟩)
theorem slice_bounds(lo hi:Option Int)(n:Nat):(sliceBounds lo hi none n).1=((HT.sIx n 0 lo:Nat):Int)∧(sliceBounds lo hi none n).2.1=((HT.sIx n n hi:Nat):Int)∧(sliceBounds lo hi none n).2.2=1:=by
 refine⟨?_,?_,rfl⟩
 ·cases lo with
  | none=>simp[sliceBounds,HT.sIx]
  | some i=>
   simp only[sliceBounds,HT.sIx,Option.getD_none,show(1:Int) >0 by decide,if_true]
   by_cases h:i<0
   ·simp only[h,if_true]<;>omega
   ·simp only[h,if_false]<;>omega
 ·cases hi with
  | none=>simp[sliceBounds,HT.sIx]
  | some i=>
   simp only[sliceBounds,HT.sIx,Option.getD_none,show(1:Int) >0 by decide,if_true]
   by_cases h:i<0
   ·simp only[h,if_true]<;>omega
   ·simp only[h,if_false]<;>omega
theorem slicePick_cut(its:List Value)(lo hi:Option Int):slicePick its.toArray lo hi none=((its.drop (HT.sIx its.length 0 lo)).take (HT.sIx its.length its.length hi - HT.sIx its.length 0 lo)).toArray:=by
 obtain⟨h1,h2,h3⟩:=slice_bounds lo hi its.toArray.size
 unfold slicePick
 rw[h1,h2,h3]
 simp only[sliceRange_one,pick_run,List.size_toArray]<;>rfl
def rSlL(K:PySem.W.Frag):V→Option Int→Option Int→Hp→VK→Prop:=fun x lo hi H Q=>∃a xs,x= .ref a∧SqL K H a xs∧∀p,H p=none→Q (.ref p) (upd H p (.lst (cutV xs lo hi)))
theorem sl_list:SlR X (rSlL X.K):=by
 intro pins s σ H x v vl vu lo hi sl Q I rx hs pl pu h
 obtain⟨a,xs,rfl,hx,q⟩:=h
 cases rx
 obtain⟨its,r,ht,hz⟩:=I.list hx
 have hlen:=r.length
 refine⟨"list",_,slot_list_getitem.lookup,ht.isList.typeIs,?_⟩
 refine wpAny_getItem_list_slice ht.isList hs pl pu .none (by simp) ?_ (by rw[List.size_toArray]<;>omega)
 rw[slicePick_cut,←hlen]
 refine⟨.ref s.heap.objs.size,_,I.laid (t':=s.toks) (o:= .lst (cutV xs lo hi)) (fun b ob q=>Heap.get?_push_of_some _ q) (Nat.le_refl _) ?_,rfl,q _ (I.hok.fresh (Nat.le_refl _))⟩
 exact⟨Nat.le_trans (cutV_length xs lo hi) hz,_,0,(r.drop (HT.sIx xs.length 0 lo)).take (HT.sIx xs.length xs.length hi - HT.sIx xs.length 0 lo),Heap.get?_push_size _ rfl⟩
def flatV:V→Bool
 | .non=>true
 | .bl _=>true
 | .int _=>true
 | .str _=>true
 | _=>false
def eqV:V→V→Bool
 | .non,.non=>true
 | .bl a,.bl b=>a==b
 | .bl a,.int b=>(if a then 1 else 0)==b
 | .int a,.bl b=>a==(if b then 1 else 0)
 | .int a,.int b=>a==b
 | .str a,.str b=>a==b
 | _,_=>false
theorem eqAt_V{A:Around}{s:Shared}{y x:V}{u v:Value}(ry:RelV y u)(rx:RelV x v)(fy:flatV y=true)(fx:flatV x=true):SeqAt.EqAt A s u v (eqV y x):=by
 cases y with
 | non=>
  cases ry
  cases x with
  | non=>cases rx;exact SeqAt.EqAt.same _
  | bl b=>cases rx;exact SeqAt.EqAt.none_bool b
  | int b=>obtain⟨t,rfl⟩:=rx;exact SeqAt.EqAt.none_int b t
  | str b=>obtain⟨t,rfl⟩:=rx;exact SeqAt.EqAt.none_str b t
  | _=>exact absurd (show false=true from fx) Bool.false_ne_true
 | bl a=>
  cases ry
  cases x with
  | non=>cases rx;exact SeqAt.EqAt.bool_none a
  | bl b=>cases rx;exact SeqAt.EqAt.bool_bool a b
  | int b=>obtain⟨t,rfl⟩:=rx;exact SeqAt.EqAt.bool_int a b t
  | str b=>obtain⟨t,rfl⟩:=rx;exact SeqAt.EqAt.bool_str a b t
  | _=>exact absurd (show false=true from fx) Bool.false_ne_true
 | int a=>
  obtain⟨t',rfl⟩:=ry
  cases x with
  | non=>cases rx;exact SeqAt.EqAt.int_none a t'
  | bl b=>cases rx;exact SeqAt.EqAt.int_bool a t' b
  | int b=>obtain⟨t,rfl⟩:=rx;exact SeqAt.EqAt.int_int a t' b t
  | str b=>obtain⟨t,rfl⟩:=rx;exact SeqAt.EqAt.int_str a t' b t
  | _=>exact absurd (show false=true from fx) Bool.false_ne_true
 | str a=>
  obtain⟨t',rfl⟩:=ry
  cases x with
  | non=>cases rx;exact SeqAt.EqAt.str_none a t'
  | bl b=>cases rx;exact SeqAt.EqAt.str_bool a t' b
  | int b=>obtain⟨t,rfl⟩:=rx;exact SeqAt.EqAt.str_int a t' b t
  | str b=>obtain⟨t,rfl⟩:=rx;exact SeqAt.EqAt.str_str a t' b t
  | _=>exact absurd (show false=true from fx) Bool.false_ne_true
 | _=>exact absurd (show false=true from fy) Bool.false_ne_true
def eqU(x:V)(u:Value):Bool:=match u with
 | .none=>eqV .non x
 | .bool b=>eqV (.bl b) x
 | .int i _=>eqV (.int i) x
 | .str z _=>eqV (.str z) x
 | _=>false
theorem eqU_of{x y:V}{u:Value}(r:RelV y u)(f:flatV y=true):eqU x u=eqV y x:=by
 cases y with
 | non=>cases r;rfl
 | bl b=>cases r;rfl
 | int i=>obtain⟨t,rfl⟩:=r;rfl
 | str z=>obtain⟨t,rfl⟩:=r;rfl
 | _=>exact absurd (show false=true from f) Bool.false_ne_true
theorem any_eqU{x:V}:∀{xs:List V} {us:List Value},Vals xs us→xs.all flatV=true→us.any (eqU x)=xs.any fun y=>eqV y x
 | _,_,.nil,_=>rfl
 | y::xs,u::us,.cons r t,f=>by
  rw[List.all_cons,Bool.and_eq_true] at f
  rw[List.any_cons,List.any_cons,eqU_of r f.1,any_eqU t f.2]
theorem mem_eqAt{A:Around}{s:Shared}{x:V}{v:Value}(rx:RelV x v)(fx:flatV x=true):∀{xs:List V} {us:List Value},Vals xs us→xs.all flatV=true→∀u∈us,SeqAt.EqAt A s u v (eqU x u)
 | _,_,.nil,_=>fun u hu=>by cases hu
 | y::xs,u::us,.cons r t,f=>fun u' hu=>by
  rw[List.all_cons,Bool.and_eq_true] at f
  rcases List.mem_cons.mp hu with rfl | hu
  ·rw[eqU_of r f.1];exact eqAt_V r rx f.1 fx
  ·exact mem_eqAt rx fx t f.2 u' hu
def inV(x:V)(xs:List V):Bool:=xs.any fun y=>eqV y x
def rIn(K:PySem.W.Frag)(neg:Bool):R2:=fun x y H Q=>∃p xs,y= .ref p∧(SqL K H p xs∨SqT K H p xs)∧flatV x=true∧xs.all flatV=true∧Q (.bl (if neg then !inV x xs else inV x xs)) H
theorem op_in_seq:OpR X (compareOp .In) (rIn X.K false):=by
 intro pins s σ H x y v u Q I rx ry h
 obtain⟨p,xs,rfl,hq,fx,fs,q⟩:=h
 cases ry
 rcases hq with hq | hq
 ·obtain⟨its,r,pl,hz⟩:=I.list hq
  refine SeqAt.in_listAt (eqU x) pl.isList (fun w hw=>mem_eqAt rx fx r fs w (by simpa using hw)) ⟨.bl _,H,I,rfl,?_⟩
  rw[show its.toArray.any (eqU x)=its.any (eqU x) by simp,any_eqU r fs]
  exact q
 ·obtain⟨its,r,pl,hz⟩:=I.tuple hq
  refine SeqAt.in_tupleAt (eqU x) pl (fun w hw=>mem_eqAt rx fx r fs w (by simpa using hw)) ⟨.bl _,H,I,rfl,?_⟩
  rw[show its.toArray.any (eqU x)=its.any (eqU x) by simp,any_eqU r fs]
  exact q
theorem op_notIn_seq:OpR X (compareOp .NotIn) (rIn X.K true):=by
 intro pins s σ H x y v u Q I rx ry h
 obtain⟨p,xs,rfl,hq,fx,fs,q⟩:=h
 cases ry
 rcases hq with hq | hq
 ·obtain⟨its,r,pl,hz⟩:=I.list hq
  refine SeqAt.notIn_listAt (eqU x) pl.isList (fun w hw=>mem_eqAt rx fx r fs w (by simpa using hw)) ⟨.bl _,H,I,rfl,?_⟩
  rw[show its.toArray.any (eqU x)=its.any (eqU x) by simp,any_eqU r fs]
  exact q
 ·obtain⟨its,r,pl,hz⟩:=I.tuple hq
  refine SeqAt.notIn_tupleAt (eqU x) pl (fun w hw=>mem_eqAt rx fx r fs w (by simpa using hw)) ⟨.bl _,H,I,rfl,?_⟩
  rw[show its.toArray.any (eqU x)=its.any (eqU x) by simp,any_eqU r fs]
  exact q
theorem call_len_seq:CallR X (.builtin "len") (fun xs H Q=>∃p ys,xs=[.ref p]∧(SqL X.K H p ys∨SqT X.K H p ys)∧Q (.int ys.length) H):=by
 intro pins s σ H xs us Q I r h
 obtain⟨p,ys,rfl,hq,q⟩:=h
 obtain⟨u,rfl,rx⟩:=vals1 r
 cases rx
 have hn:=line63
 rcases hq with hq | hq
 ·obtain⟨its,r',pl,hz⟩:=I.list hq
  have hlen:=r'.length
  exact Calls.call_len_list pl.isList (by simp only[List.size_toArray]<;>omega) ⟨.int ys.length,H,I.tok _,⟨s.toks+1,by rw[List.size_toArray,hlen]⟩,q⟩
 ·obtain⟨its,r',pl,hz⟩:=I.tuple hq
  have hlen:=r'.length
  exact len_tuple pl (by simp only[List.size_toArray]<;>omega) ⟨.int ys.length,H,I.tok _,⟨s.toks+1,by rw[List.size_toArray,hlen]⟩,q⟩
theorem call_len_str:CallR X (.builtin "len") (fun xs H Q=>∃z,xs=[.str z]∧z.length≤sizeLine∧Q (.int z.length) H):=by
 intro pins s σ H xs us Q I r h
 obtain⟨z,rfl,hz,q⟩:=h
 obtain⟨u,rfl,t,rfl⟩:=vals1 r
 have hn:=line63
 exact len_str (by omega) ⟨.int z.length,H,I.tok _,⟨_,rfl⟩,q⟩
theorem call_list_of:CallR X (.type "list") (fun xs H Q=>∃p ys,xs=[.ref p]∧(SqL X.K H p ys∨SqT X.K H p ys)∧∀l,H l=none→Q (.ref l) (upd H l (.lst ys))):=by
 intro pins s σ H xs us Q I r h
 obtain⟨p,ys,rfl,hq,q⟩:=h
 obtain⟨u,rfl,rx⟩:=vals1 r
 cases rx
 have fin:∀(its:List Value),Vals ys its→ys.length≤sizeLine→∀(h':Heap) (c':Nat),(∀b o',s.heap.get? b=some o'→h'.get? b=some o')→
   h'.get? s.heap.objs.size=some {cls:= .type "list",dict:=none,data:= .seq its.toArray c',slots:=#[]}→EP X pins σ Q (.ref s.heap.objs.size) {s with heap:=h'}:=fun its r' hz h' c' kp e=>
  ⟨.ref s.heap.objs.size,_,I.laid (t':=s.toks) kp (Nat.le_refl _) (show ObjOk X.prog X.w _ h' _ (.lst ys) from⟨hz,its,c',r',e⟩),rfl,q _ (I.hok.fresh (Nat.le_refl _))⟩
 rcases hq with hq | hq
 ·obtain⟨its,r',pl,hz⟩:=I.list hq
  have hlen:=r'.length
  obtain⟨o,ho,hc,n,hd⟩:=pl.isList
  exact call_list_seq p (.inl rfl) ho hc hd (fun h' c' kp e=>fin its r' hz h' c' kp e) (by simp only[List.size_toArray]<;>omega)
 ·obtain⟨its,r',pl,hz⟩:=I.tuple hq
  have hlen:=r'.length
  obtain⟨o,ho,hc,n,hd⟩:=pl
  exact call_list_seq p (.inr rfl) ho hc hd (fun h' c' kp e=>fin its r' hz h' c' kp e) (by simp only[List.size_toArray]<;>omega)
def tyV(K:PySem.W.Frag)(T:String)(x:V)(H:Hp):Prop:=match x with
 | .str _=>T="str"
 | .int _=>T="int"
 | .ref p=>(T="list"∧∃xs,SqL K H p xs)∨(T="tuple"∧∃o,K.lookup p=some o∧o.cls= .type "tuple"∧o.dict=none)∨
   (T="dict"∧((∃kvs,H p=some (.dK kvs))∨∃kvs,H p=some (.dT kvs)))∨(T="set"∧∃S n,H p=some (.set S n))
 | _=>False
theorem tyV_is{pins:List (Addr×Obj)}{σ:St}{H:Hp}{s:Shared}{T:String}{x:V}{v:Value}(I:Inv X pins σ H s)(r:RelV x v)(ty:tyV X.K T x H):
  s.TypeIs v T∧∀a,v= .ref a→∃ob,s.heap.get? a=some ob∧ob.dict=none:=by
 cases x with
 | str z=>
  obtain⟨t,rfl⟩:=r
  cases (show T="str" from ty)
  exact⟨typeIs_str s z t,fun _ e=>nomatch e⟩
 | int i=>
  obtain⟨t,rfl⟩:=r
  cases (show T="int" from ty)
  exact⟨typeIs_int s i t,fun _ e=>nomatch e⟩
 | ref p=>
  cases r
  rcases ty with⟨rfl,xs,hq⟩ | ⟨rfl,o,hk,hc,hd⟩ | ⟨rfl,hk⟩ | ⟨rfl,S,n,hk⟩
  ·obtain⟨its,_,pl,_⟩:=I.list hq
   refine⟨pl.isList.typeIs,fun a e=>?_⟩
   cases e
   obtain⟨o,n,e,c,hd,_⟩:=pl
   exact⟨o,e,hd⟩
  ·refine⟨⟨o,I.kIn p o hk,hc⟩,fun a e=>?_⟩
   cases e
   exact⟨o,I.kIn _ o hk,hd⟩
  ·have z:∃o,s.heap.get? p=some o∧o.ExactDict:=by
    rcases hk with⟨kvs,hk⟩ | ⟨kvs,hk⟩
    ·obtain⟨_,_,_,_,o,_,_,e,ex,_⟩:=I.hok p _ hk
     exact⟨o,e,ex⟩
    ·obtain⟨_,_,_,_,o,_,_,e,ex,_⟩:=I.hok p _ hk
     exact⟨o,e,ex⟩
   obtain⟨o,e,ex⟩:=z
   refine⟨⟨o,e,ex.1⟩,fun a e2=>?_⟩
   cases e2
   exact⟨o,e,ex.2.1⟩
  ·obtain⟨o,_,_,_,e,ex,_⟩:=I.hok p _ hk
   refine⟨⟨o,e,ex.1⟩,fun a e2=>?_⟩
   cases e2
   exact⟨o,e,ex.2.1⟩
 | _=>exact False.elim ty
def tBM0(K:PySem.W.Frag)(T:String)(r:V→List V→Hp→VK→Prop)(to:TE):TE:=fun σ H Q=>to σ H fun x H1=>tyV K T x H1∧r x [] H1 Q
def tBM(K:PySem.W.Frag)(T:String)(r:V→List V→Hp→VK→Prop)(to:TE)(t:TA):TE:=fun σ H Q=>to σ H fun x H1=>tyV K T x H1∧t σ H1 fun xs H2=>r x xs H2 Q
variable{o e:Expr}{es:List Expr}{to:TE}{t:TA}{name:Str}{apos cpos:Pos}{T id:String}{r:V→List V→Hp→VK→Prop}
theorem pe_bm0(pa:PlainAttrs T)(slot:Slot T name id)(hty:typeOf (.builtin id)=pure (.type "method_descriptor"))(hm:MtR X id r)(ho:PE X o to)
  (hbase:attributeBase o name X.env (eval o X.env)=eval o X.env:=by rfl) (hline:(apos.endLine==cpos.line)=true:=by rfl):PE X (.Call (.Attribute o name apos) [] [] cpos) (tBM0 X.K T r to):=by
 intro pins s σ H Q I h
 refine wpAny_Call_method0_late hbase hline (thn (ho pins s σ H _ I h) fun v s1 ⟨x,H1,I1,r1,ty,q1⟩=>?_)
 obtain⟨h1,h2⟩:=tyV_is I1 r1 ty
 exact⟨T,id,pa,slot,hty,h1,h2,Calls.callWith_builtin rfl (PySem.evalArgs_none (hm pins s1 σ H1 x [] v [] Q I1 r1 .nil q1))⟩
theorem pe_bm(pa:PlainAttrs T)(slot:Slot T name id)(hty:typeOf (.builtin id)=pure (.type "method_descriptor"))(hm:MtR X id r)(ho:PE X o to)(ha:PA X (e::es) t)
  (hbase:attributeBase o name X.env (eval o X.env)=eval o X.env:=by rfl)
  (hfew:((backTo cpos (starEach (e::es) X.env)).all (fun x=> !x.1)&&(backToKw cpos (keywordEach [] X.env)).all (fun x=>x.1.isSome)
   &&decide ((e::es).length+([]:List Keyword).length+(if ([]:List Keyword).isEmpty then 0 else 1)<30))=true:=by rfl)
  (hline:(apos.endLine==cpos.line)=true:=by rfl) (hs:starEach (e::es) X.env=(false,eval e X.env)::starEach es X.env:=by rfl) (hplain:(backTo cpos (starEach es X.env)).any (·.1)=false:=by rfl):
  PE X (.Call (.Attribute o name apos) (e::es) [] cpos) (tBM X.K T r to t):=by
 intro pins s σ H Q I h
 refine wpAny_Call_method_late hbase hfew hline rfl (thn (ho pins s σ H _ I h) fun v s1 ⟨x,H1,I1,r1,ty,q1⟩=>?_)
 obtain⟨h1,h2⟩:=tyV_is I1 r1 ty
 refine⟨T,id,pa,slot,hty,h1,h2,?_⟩
 have hA:=ha cpos pins s1 σ H1 _ I1 q1
 rw[hs] at hA ⊢
 refine Calls.callWith_builtin (by show(false || (backTo cpos (starEach es X.env)).any (·.1))=false;rw[hplain]<;>rfl) (Calls.evalArgs_plain ?_)
 exact thn hA fun us s2 ⟨vs,H2,I2,r2,q2⟩=>hm pins s2 σ H2 x vs v us Q I2 r1 r2 q2
end
def MtM(X:Cx)(id:String)(r:V→List V→Hp→VK→Prop):Prop:=
 ∀(pins:List (Addr×Obj)) (s:Shared) (σ:St) (H:Hp) (x:V) (xs:List V) (v:Value) (us:List Value) (Q:VK),Inv X pins σ H s→RelV x v→Vals xs us→r x xs H Q→
  wpAny (model X.prog X.w) X.A (call (.builtin id) (v::us)) (EP X pins σ Q) X.xe s
theorem Vals.one:∀{x:V} {us:List Value},Vals [x] us→∃u,us=[u]∧RelV x u
 | _,_,.cons r .nil=>⟨_,rfl,r⟩
theorem Vals.zero:∀{us:List Value},Vals [] us→us=[]
 | _,.nil=>rfl
theorem Vals.rep{xs:List V}{us:List Value}(h:Vals xs us):∀k:Nat,Vals (List.replicate k xs).flatten (List.replicate k us).flatten
 | 0=> .nil
 | k+1=>by
  rw[List.replicate_succ,List.replicate_succ,List.flatten_cons,List.flatten_cons]
  exact Vals.append h (Vals.rep h k)
theorem foldl_rep(its:List Value):∀(k:Nat) (acc:List Value),
  List.foldl (fun x1 x2=>x1++x2) acc.toArray (List.replicate k its.toArray)=(acc++(List.replicate k its).flatten).toArray
 | 0,acc=>by simp
 | k+1,acc=>by
  have e:acc.toArray++its.toArray=(acc++its).toArray:=by simp
  have e2:(acc++its)++(List.replicate k its).flatten=acc++(List.replicate (k+1) its).flatten:=by
   rw[List.replicate_succ,List.flatten_cons,List.append_assoc]
  rw[←e2,←foldl_rep its k (acc++its),←e,List.replicate_succ,List.foldl_cons]
section
variable{X:Cx}{pins:List (Addr×Obj)}{σ:St}{H:Hp}{s:Shared}{l b:Addr}{xs ys zs:List V}
theorem Inv.lset{its its':List Value}{n:Nat}{f:Array Value→Array Value}{t':Nat}(I:Inv X pins σ H s)(hH:H l=some (.lst xs))
  (e:s.heap.get? l=some {cls:= .type "list",data:= .seq its.toArray n}) (hf:f its.toArray=its'.toArray) (hv:Vals ys its') (hz:ys.length≤sizeLine):
  Inv X pins σ (upd H l (.lst ys)) {s with heap:=s.heap.update l (Obj.mapSeq f),toks:=t'}:=by
 have q:=PySem.IsL.update e f
 rw[hf] at q
 refine I.write (x:=l) (e:=l) (by rw[hH];exact trivial) (.inl rfl) (fun b' u hb hu=>(Heap.get?_update_other s.heap (Obj.mapSeq f) (Ne.symm hb)).trans hu) ⟨_,q⟩ ?_
 exact⟨hz,its',_,hv,q⟩
theorem Inv.lnew{its:List Value}{t':Nat}(I:Inv X pins σ H s)(hv:Vals ys its)(hz:ys.length≤sizeLine):
  Inv X pins σ (upd H s.heap.objs.size (.lst ys)) {s with heap:=s.heap.push {cls:= .type "list",data:= .seq its.toArray},toks:=t'}:=
 I.laid (fun _ _ q=>Heap.get?_push_of_some _ q) (Nat.le_refl _) ⟨hz,its,0,hv,Heap.get?_push_size _ rfl⟩
theorem Inv.fresh(I:Inv X pins σ H s):H s.heap.objs.size=none:=I.hok.fresh (Nat.le_refl _)
theorem Inv.lstM(I:Inv X pins σ H s)(hH:H l=some (.lst xs)):xs.length≤sizeLine∧∃(its:List Value) (n:Nat),Vals xs its∧xs.length=its.length∧s.heap.get? l=some {cls:= .type "list",data:= .seq its.toArray n}:=by
 obtain⟨z,its,n,r,e⟩:=I.hok l _ hH
 exact⟨z,its,n,r,r.length,e⟩
theorem notLongL{n:Nat}(h:n≤sizeLine):Builtin.List.listTooLong n=false:=by
 unfold Builtin.List.listTooLong
 exact decide_eq_false (by omega)
end
section
variable{X:Cx}
def rAppend:V→List V→Hp→VK→Prop:=fun x vs H Q=>∃l xs y,x= .ref l∧vs=[y]∧H l=some (.lst xs)∧xs.length<sizeLine∧Q .non (upd H l (.lst (xs++[y])))
theorem mt_append:MtM X "list.append" rAppend:=by
 intro pins s σ H x vs v us Q I rx rv h
 obtain⟨l,xs,y,rfl,rfl,hH,hz,q⟩:=h
 cases rx
 obtain⟨u,rfl,ru⟩:=rv.one
 obtain⟨z,its,n,r,hl,e⟩:=I.lstM hH
 refine call_meets F.slot_list_append ⟨_,e,rfl⟩ F.entry_list_append (F.args_list_append_2 _ _) (PySem.list_append l its.toArray n u (by rw[List.size_toArray];omega)) ⟨e,?_⟩
 refine⟨.non,_,I.lset (its':=its++[u]) hH e (by simp) (r.append (.cons ru .nil)) ?_,rfl,q⟩
 rw[List.length_append,List.length_singleton]
 omega
def rClear:V→List V→Hp→VK→Prop:=fun x vs H Q=>∃l xs,x= .ref l∧vs=[]∧H l=some (.lst xs)∧Q .non (upd H l (.lst []))
theorem mt_clear:MtM X "list.clear" rClear:=by
 intro pins s σ H x vs v us Q I rx rv h
 obtain⟨l,xs,rfl,rfl,hH,q⟩:=h
 cases rx
 have hus:=rv.zero
 subst hus
 obtain⟨z,its,n,r,hl,e⟩:=I.lstM hH
 refine call_meets F.slot_list_clear ⟨_,e,rfl⟩ F.entry_list_clear (F.args_list_clear_1 _) (AutoSeq1.list_clear_list_0 l its.toArray n (by rw[List.size_toArray];omega)) ⟨e,?_⟩
 exact⟨.non,_,I.lset (its':=[]) (ys:=[]) hH e rfl .nil (Nat.zero_le _),rfl,q⟩
def rCat:R2:=fun x y H Q=>∃l b xs zs,x= .ref l∧y= .ref b∧H l=some (.lst xs)∧H b=some (.lst zs)∧xs.length+zs.length≤sizeLine∧∀p,H p=none→Q (.ref p) (upd H p (.lst (xs++zs)))
theorem op_cat:OpR X (binaryOp .Add) rCat:=by
 intro pins s σ H x y v u Q I rx ry h
 obtain⟨l,b,xs,zs,rfl,rfl,hH,hB,hz,q⟩:=h
 cases rx
 cases ry
 obtain⟨z,its,n,r,hl,e⟩:=I.lstM hH
 obtain⟨z2,its2,n2,r2,hl2,e2⟩:=I.lstM hB
 refine PySem.P.add_list e e2 ?_ (by rw[List.size_toArray,List.size_toArray];omega)
 have ea:its.toArray++its2.toArray=(its++its2).toArray:=by simp
 rw[ea]
 exact⟨.ref _,_,I.lnew (t':=s.toks) (r.append r2) (by rw[List.length_append];omega),rfl,q _ I.fresh⟩
def rRep:R2:=fun x y H Q=>∃l k xs,x= .ref l∧y= .int k∧H l=some (.lst xs)∧ -(2 ^ 63)≤k∧k<2 ^ 63∧xs.length * k.toNat≤sizeLine∧
 ∀p,H p=none→Q (.ref p) (upd H p (.lst (List.replicate k.toNat xs).flatten))
theorem len_rep{α:Type}(xs:List α)(k:Nat):(List.replicate k xs).flatten.length=k * xs.length:=by
 induction k with
 | zero=>simp
 | succ k ih=>rw[List.replicate_succ,List.flatten_cons,List.length_append,ih,Nat.succ_mul,Nat.add_comm]
theorem op_rep:OpR X (binaryOp .Mult) rRep:=by
 intro pins s σ H x y v u Q I rx ry h
 obtain⟨l,k,xs,rfl,rfl,hH,h1,h2,hz,q⟩:=h
 cases rx
 obtain⟨t,rfl⟩:=ry
 obtain⟨z,its,n,r,hl,e⟩:=I.lstM hH
 have hlen:its.toArray.size * k.toNat≤sizeLine:=by rw[List.size_toArray,←hl];exact hz
 have hcap:¬its.toArray.size * k.toNat >(2 ^ 63 - 1) / 8:=by
  have:(sizeLine:Nat)≤(2 ^ 63 - 1) / 8:=by decide
  omega
 have hfit:¬(!Builtin.List.listFitsIndex k)=true:=by
  rw[fitsIndex_both h1 h2]
  exact Bool.false_ne_true
 have hlong:¬Builtin.List.listTooLong (its.toArray.size * k.toNat)=true:=by
  rw[notLongL hlen]
  exact Bool.false_ne_true
 have hnew:List.foldl (fun x1 x2=>x1++x2) #[] (List.replicate (if its.toArray.isEmpty=true then 0 else k.toNat) its.toArray)=(List.replicate k.toNat its).flatten.toArray:=by
  have f0:∀m:Nat,List.foldl (fun x1 x2=>x1++x2) #[] (List.replicate m its.toArray)=(List.replicate m its).flatten.toArray:=fun m=>by
   have:=foldl_rep its m []
   rw[List.nil_append] at this
   exact this
  rw[f0]
  cases its with
  | nil=>simp
  | cons a r'=>rw[if_neg (by simp)]
 refine wpAny_binaryOp_repeat_ref (T:="list") (U:="int") (by decide) ⟨_,e,rfl⟩ (fun s'=>typeIs_int s' k t) noFill_list_mul F.fills_int_mul F.slot_int_rmul repeat_list F.slot_int_index.lookup
  (call_meets F.slot_int_rmul (typeIs_int s k t) F.entry_int_rmul (F.args_int_rmul_2 _ _) (int___rmul___int_list k t l its.toArray n)
   ⟨e,rfl,⟨_,e,rfl⟩,call_meets F.slot_list_mul ⟨_,e,rfl⟩ F.entry_list_mul (F.args_list_mul_2 _ _) (AutoListH.list___mul___list_int_3 l its.toArray n k t hfit hcap hlong) ⟨e,?_⟩⟩)
 rw[hnew]
 exact⟨.ref _,_,I.lnew (t':=s.toks) (r.rep k.toNat) (by rw[len_rep,Nat.mul_comm];exact hz),rfl,q _ I.fresh⟩
end
section
variable{prog:Program}{w:World}{A:Around}{E:Value→Shared→Prop}{s:Shared}
set_option maxRecDepth 100000 in
end
section
variable{X:Cx}
end
section
variable{κ:Type}[DecidableEq κ]
def valV(kvs:List (κ×V))(k:κ):Option V:=(kvs.find? fun kv=>decide (kv.1=k)).map (·.2)
def putK(kvs:List (κ×V))(k:κ)(v:V):List (κ×V):=
 if (kvs.any fun kv=>decide (kv.1=k))=true then kvs.map (fun kv=>if kv.1=k then(kv.1,v) else kv) else kvs++[(k,v)]
theorem valV_pos{p:κ×V}{r:List (κ×V)}{k:κ}(e:p.1=k):valV (p::r) k=some p.2:=by simp[valV,List.find?_cons,e]
theorem valV_neg{p:κ×V}{r:List (κ×V)}{k:κ}(e:¬p.1=k):valV (p::r) k=valV r k:=by simp[valV,List.find?_cons,e]
theorem valV_any(k:κ):∀kvs:List (κ×V),(kvs.any fun kv=>decide (kv.1=k))=(valV kvs k).isSome
 | []=>rfl
 | p::r=>by
  rw[List.any_cons]
  by_cases e:p.1=k
  ·simp only[valV_pos e,decide_eq_true e,Bool.true_or,Option.isSome_some]
  ·rw[valV_neg e,decide_eq_false e,Bool.false_or];exact valV_any k r
theorem length_putK(kvs:List (κ×V))(k:κ)(v:V):(putK kvs k v).length≤kvs.length+1:=by
 unfold putK
 split
 ·rw[List.length_map];omega
 ·rw[List.length_append,List.length_cons,List.length_nil];omega
theorem RelO.isSome_eq{o:Option V}{u:Option Value}(r:RelO o u):o.isSome=u.isSome:=by
 cases o with
 | none=>cases u with
  | none=>rfl
  | some _=>exact(show False from r).elim
 | some _=>cases u with
  | none=>exact(show False from r).elim
  | some _=>rfl
theorem RelO.getD{o:Option V}{u:Option Value}{d:V}{d':Value}(r:RelO o u)(rd:RelV d d'):RelV (o.getD d) (u.getD d'):=by
 cases o with
 | none=>cases u with
  | none=>exact rd
  | some _=>exact(show False from r).elim
 | some _=>cases u with
  | none=>exact(show False from r).elim
  | some _=>exact r
theorem KV.val{kvs:List (κ×V)}{vs:List (κ×Value)}(r:KV kvs vs)(k:κ):RelO (valV kvs k) (valueAt vs k):=by
 unfold KV at r
 induction r with
 | nil=>exact True.intro
 | @cons p q ps qs h t ih=>
  obtain⟨h1,h2⟩:=h
  by_cases e:p.1=k
  ·have e':q.1=k:=h1.symm.trans e
   have b:valueAt (q::qs) k=some q.2:=by simp[valueAt,List.find?_cons,e']
   rw[valV_pos e,b];exact h2
  ·have e':¬q.1=k:=fun z=>e (h1.trans z)
   have b:valueAt (q::qs) k=valueAt qs k:=by simp[valueAt,List.find?_cons,e']
   rw[valV_neg e,b];exact ih
theorem KV.any{kvs:List (κ×V)}{vs:List (κ×Value)}(r:KV kvs vs)(k:κ):(kvs.any fun kv=>decide (kv.1=k))=vs.any fun kv=>decide (kv.1=k):=by
 unfold KV at r
 induction r with
 | nil=>rfl
 | cons h t ih=>rw[List.any_cons,List.any_cons,ih,h.1]
theorem KV.repl{kvs:List (κ×V)}{vs:List (κ×Value)}(r:KV kvs vs)(k:κ){y:V}{u:Value}(ry:RelV y u):
  KV (kvs.map fun kv=>if kv.1=k then(kv.1,y) else kv) (vs.map fun kv=>if kv.1=k then(kv.1,u) else kv):=by
 unfold KV at r ⊢
 induction r with
 | nil=>exact .nil
 | @cons p q ps qs h t ih=>
  rw[List.map_cons,List.map_cons]
  refine .cons ?_ ih
  obtain⟨h1,h2⟩:=h
  by_cases e:p.1=k
  ·rw[if_pos e,if_pos (h1.symm.trans e)];exact⟨h1,ry⟩
  ·rw[if_neg e,if_neg (fun z=>e (h1.trans z))];exact⟨h1,h2⟩
theorem KV.put{kvs:List (κ×V)}{vs:List (κ×Value)}(r:KV kvs vs)(k:κ){y:V}{u:Value}(ry:RelV y u):KV (putK kvs k y) (stored vs k u):=by
 unfold putK stored
 rw[r.any k]
 by_cases e:(vs.any fun kv=>decide (kv.1=k))=true
 ·rw[if_pos e,if_pos e];exact r.repl k ry
 ·rw[if_neg e,if_neg e];exact Paired.snoc r ⟨rfl,ry⟩
theorem KV.length{kvs:List (κ×V)}{vs:List (κ×Value)}(r:KV kvs vs):kvs.length=vs.length:=Paired.length r
end
theorem kV_is{P:Program}{w:World}{k:Key}{u:Value}(r:RelV (kV k) u):(mixKind P w).is k u=true:=by
 cases k with
 | inl i=>obtain⟨t,e⟩:=(show ∃t,u=Value.int i t from r);subst e;exact mixKind_int P w i t
 | inr x=>obtain⟨t,e⟩:=(show ∃t,u=Value.str x t from r);subst e;exact mixKind_str P w x t
theorem items_are{P:Program}{w:World}:∀{ks:List Key} {us:List Value},Vals (ks.map kV) us→ItemsAre (mixKind P w) ks us
 | [],_,r=>by rw[List.map_nil] at r;cases r;exact .nil
 | k::ks,_,r=>by
  rw[List.map_cons] at r
  cases r with
  | cons h t=>exact .cons (kV_is h) (items_are t)
abbrev KT(H:Hp):List (List Key×V)→List (List Key×Addr×Value)→Prop:=Paired fun p q=>p.1=q.1∧H q.2.1=some (.tup (p.1.map kV))∧RelV p.2 q.2.2
theorem KT.val{H:Hp}{kvs:List (List Key×V)}{xs:List (List Key×Addr×Value)}(r:KT H kvs xs)(k:List Key):RelO (valV kvs k) ((atKey xs k).map (·.2)):=by
 induction r with
 | nil=>exact True.intro
 | @cons p q ps qs h t ih=>
  obtain⟨h1,_,h2⟩:=h
  by_cases e:p.1=k
  ·have e':q.1=k:=h1.symm.trans e
   have b:atKey (q::qs) k=some q.2:=by simp[atKey,List.find?_cons,e']
   rw[valV_pos e,b];exact h2
  ·have e':¬q.1=k:=fun z=>e (h1.trans z)
   have b:atKey (q::qs) k=atKey qs k:=by simp[atKey,List.find?_cons,e']
   rw[valV_neg e,b];exact ih
theorem KT.repl{H:Hp}{kvs:List (List Key×V)}{xs:List (List Key×Addr×Value)}(r:KT H kvs xs)(k:List Key){y:V}{u:Value}(ry:RelV y u):
  KT H (kvs.map fun kv=>if kv.1=k then(kv.1,y) else kv) (xs.map (putAt k u)):=by
 induction r with
 | nil=>exact .nil
 | @cons p q ps qs h t ih=>
  rw[List.map_cons,List.map_cons]
  refine .cons ?_ ih
  obtain⟨h1,h2,h3⟩:=h
  unfold putAt
  by_cases e:p.1=k
  ·rw[if_pos e,if_pos (h1.symm.trans e)];exact⟨h1,h2,ry⟩
  ·rw[if_neg e,if_neg (fun z=>e (h1.trans z))];exact⟨h1,h2,h3⟩
theorem KT.put{H:Hp}{kvs:List (List Key×V)}{xs:List (List Key×Addr×Value)}(r:KT H kvs xs)(k:List Key){b:Addr}{y:V}{u:Value}(hb:H b=some (.tup (k.map kV)))(ry:RelV y u):
  KT H (putK kvs k y) (storedH xs k b u):=by
 have e:(kvs.any fun kv=>decide (kv.1=k))=(atKey xs k).isSome:=by
  rw[valV_any,(r.val k).isSome_eq,Option.isSome_map]
 unfold putK storedH
 rw[e]
 by_cases q:(atKey xs k).isSome=true
 ·rw[if_pos q,if_pos q];exact r.repl k ry
 ·rw[if_neg q,if_neg q];exact Paired.snoc r ⟨rfl,hb,ry⟩
theorem KT.keeps{H H':Hp}{kvs:List (List Key×V)}{xs:List (List Key×Addr×Value)}(r:KT H kvs xs)(ht:∀b ys,H b=some (.tup ys)→H' b=some (.tup ys)):KT H' kvs xs:=
 Paired.mapP r fun _ _ z=>⟨z.1,ht _ _ z.2.1,z.2.2⟩
section
variable{P:Program}{w:World}{H:Hp}{h:Heap}{a:Addr}
theorem rd_of{u:HO}(ok:HOk P w H h)(e:Rd H a u):ObjOk P w H h a u:=e.ok ok
theorem dk_rd{kvs:List (Key×V)}(ok:HOk P w H h)(e:Rd H a (.dK kvs)):kvs.length≤sizeLine∧(a==sysModules)=false∧∃vs,KV kvs vs∧h.DictOf (mixKind P w) a vs:=
 show ObjOk P w H h a (.dK kvs) from rd_of ok e
theorem dk_of{kvs:List (Key×V)}(ok:HOk P w H h)(e:H a=some (.dK kvs)):kvs.length≤sizeLine∧(a==sysModules)=false∧∃vs,KV kvs vs∧h.DictOf (mixKind P w) a vs:=dk_rd ok (.inl e)
theorem key_of{ks:List Key}(ok:HOk P w H h)(e:H a=some (.tup (ks.map kV))):(tupleKind (mixKind P w)).is h ks a:=by
 obtain⟨_,its,r,o,h1,h2,n,h3⟩:=(show ObjOk P w H h a (.tup (ks.map kV)) from ok a _ e)
 exact⟨o,its.toArray,n,h1,h2,h3,by simpa using items_are r⟩
theorem dt_rd{kvs:List (List Key×V)}(ok:HOk P w H h)(e:Rd H a (.dT kvs)):kvs.length≤sizeLine∧(a==sysModules)=false∧
  ∃xs,KT H kvs xs∧h.DictOfH (tupleKind (mixKind P w)) a xs:=by
 obtain⟨z,y,xs,r,o,es,ep,h1,h2,h3,h4,h5⟩:=(show ObjOk P w H h a (.dT kvs) from rd_of ok e)
 refine⟨z,y,xs,r,o,es,ep,h1,h2,h3,h4,fun x hx=>?_,h5⟩
 have all:∀{l:List (List Key×V)} {m:List (List Key×Addr×Value)},KT H l m→∀x∈m,(tupleKind (mixKind P w)).is h x.1 x.2.1:=by
  intro l m q
  induction q with
  | nil=>intro x hx;exact nomatch hx
  | @cons p q ps qs hq t ih=>
   intro x hx
   rcases List.mem_cons.mp hx with e | hx
   ·subst e
    exact key_of ok (by rw[←hq.1];exact hq.2.1)
   ·exact ih x hx
 exact all r x hx
theorem dt_of{kvs:List (List Key×V)}(ok:HOk P w H h)(e:H a=some (.dT kvs)):kvs.length≤sizeLine∧(a==sysModules)=false∧
  ∃xs,KT H kvs xs∧h.DictOfH (tupleKind (mixKind P w)) a xs:=dt_rd ok (.inl e)
end
def DGet(H:Hp)(a:Addr)(y:V)(r:Option V):Prop:=
 (∃kvs k,Rd H a (.dK kvs)∧y=kV k∧r=valV kvs k)∨∃kvs k b,Rd H a (.dT kvs)∧y= .ref b∧H b=some (.tup (k.map kV))∧r=valV kvs k
def DPut(H:Hp)(a:Addr)(y v:V)(H':Hp):Prop:=
 (∃kvs k,H a=some (.dK kvs)∧y=kV k∧kvs.length<sizeLine∧H'=upd H a (.dK (putK kvs k v)))∨
 ∃kvs k b,H a=some (.dT kvs)∧y= .ref b∧H b=some (.tup (k.map kV))∧kvs.length<sizeLine∧H'=upd H a (.dT (putK kvs k v))
theorem DGet.k{H:Hp}{a:Addr}{kvs:List (Key×V)}{k:Key}(e:H a=some (.dK kvs)):DGet H a (kV k) (valV kvs k):= .inl ⟨kvs,k,.inl e,rfl,rfl⟩
theorem DGet.t{H:Hp}{a b:Addr}{kvs:List (List Key×V)}{k:List Key}(e:H a=some (.dT kvs))(eb:H b=some (.tup (k.map kV))):DGet H a (.ref b) (valV kvs k):= .inr ⟨kvs,k,b,.inl e,rfl,eb,rfl⟩
theorem DPut.k{H:Hp}{a:Addr}{kvs:List (Key×V)}{k:Key}{v:V}(e:H a=some (.dK kvs))(hl:kvs.length<sizeLine):DPut H a (kV k) v (upd H a (.dK (putK kvs k v))):= .inl ⟨kvs,k,e,rfl,hl,rfl⟩
theorem DPut.t{H:Hp}{a b:Addr}{kvs:List (List Key×V)}{k:List Key}{v:V}(e:H a=some (.dT kvs))(eb:H b=some (.tup (k.map kV)))(hl:kvs.length<sizeLine):
  DPut H a (.ref b) v (upd H a (.dT (putK kvs k v))):= .inr ⟨kvs,k,b,e,rfl,eb,hl,rfl⟩
section
variable{X:Cx}{pins:List (Addr×Obj)}{σ:St}{H:Hp}{s:Shared}{a:Addr}{y v:V}{u r:Value}{o:Option V}{A:Around}{E:Value→Shared→Prop}
theorem Inv.big(I:Inv X pins σ H s):sysModules<s.heap.objs.size:=by
 have h:mainGlobals<s.heap.objs.size:=(I.mod.glob.keeps I.bk).lt
 exact Nat.lt_trans (by decide) h
theorem d_getItem{Q:Value→Shared→Prop}(hu:A.units+1<cLine)(I:Inv X pins σ H s)(g:DGet H a y (some v))(ry:RelV y u)(h:∀w' s',Inv X pins σ H s'→RelV v w'→Q w' s'):
  wpAny (model X.prog X.w) A (getItem (.ref a) u) Q E s:=by
 rcases g with⟨kvs,k,e,ey,l⟩ | ⟨kvs,k,b,e,ey,eb,l⟩
 ·subst ey
  obtain⟨z,hd,vs,rel,dd⟩:=dk_rd I.hok e
  obtain⟨w',hw,rw'⟩:=RelO.some_of (v:=v) (o:=valueAt vs k) (by rw[l];exact rel.val k)
  exact wpAny_getItem_of (kV_is ry) dd.mapOf hw (h w' _ (I.tok _) rw')
 ·subst ey
  cases (show u=Value.ref b from ry)
  obtain⟨z,hd,xs,rel,dd⟩:=dt_rd I.hok e
  obtain⟨w',hw,rw'⟩:=RelO.some_of (v:=v) (o:=(atKey xs k).map (·.2)) (by rw[l];exact rel.val k)
  obtain⟨p,hp,hp2⟩:=Option.map_eq_some_iff.mp hw
  refine wpAny_getItem_heap (tupleKind_room_in1 hu) (key_of I.hok eb) dd hp ?_
  rw[hp2]
  exact h w' _ (I.tok _) rw'
theorem d_in{Q:Value→Shared→Prop}(hu:A.units+1<cLine)(I:Inv X pins σ H s)(g:DGet H a y o)(ry:RelV y u)(h:∀s',Inv X pins σ H s'→Q (.bool o.isSome) s'):
  wpAny (model X.prog X.w) A (compareOp .In u (.ref a)) Q E s:=by
 rcases g with⟨kvs,k,e,ey,l⟩ | ⟨kvs,k,b,e,ey,eb,l⟩
 ·subst ey
  obtain⟨z,hd,vs,rel,dd⟩:=dk_rd I.hok e
  refine wpAny_in_of (kV_is ry) hd dd.mapOf ?_
  rw[←(rel.val k).isSome_eq,←l]
  exact h _ (I.tok _)
 ·subst ey
  cases (show u=Value.ref b from ry)
  obtain⟨z,hd,xs,rel,dd⟩:=dt_rd I.hok e
  refine wpAny_in_heap (tupleKind_room_in1 hu) (key_of I.hok eb) hd dd ?_
  have q:=(rel.val k).isSome_eq
  rw[Option.isSome_map] at q
  rw[←q,←l]
  exact h _ (I.tok _)
theorem d_notIn{Q:Value→Shared→Prop}(hu:A.units+1<cLine)(I:Inv X pins σ H s)(g:DGet H a y o)(ry:RelV y u)(h:∀s',Inv X pins σ H s'→Q (.bool (!o.isSome)) s'):
  wpAny (model X.prog X.w) A (compareOp .NotIn u (.ref a)) Q E s:=by
 rcases g with⟨kvs,k,e,ey,l⟩ | ⟨kvs,k,b,e,ey,eb,l⟩
 ·subst ey
  obtain⟨z,hd,vs,rel,dd⟩:=dk_rd I.hok e
  refine wpAny_notIn_of (kV_is ry) hd dd.mapOf ?_
  rw[←(rel.val k).isSome_eq,←l]
  exact h _ (I.tok _)
 ·subst ey
  cases (show u=Value.ref b from ry)
  obtain⟨z,hd,xs,rel,dd⟩:=dt_rd I.hok e
  refine wpAny_notIn_heap (tupleKind_room_in1 hu) (key_of I.hok eb) hd dd ?_
  have q:=(rel.val k).isSome_eq
  rw[Option.isSome_map] at q
  rw[←q,←l]
  exact h _ (I.tok _)
theorem d_write{h':Heap}{t':Nat}{ob:HO}(I:Inv X pins σ H s)(mu:Mut (H a))(hs:Heap.SameBut a s.heap h')(he:∃q,h'.get? a=some q)(new:ObjOk X.prog X.w (upd H a ob) h' a ob):
  Inv X pins σ (upd H a ob) {s with heap:=h',toks:=t'}:=
 I.write (x:=a) (e:=a) mu (.inl rfl) (fun b q hb z=>(hs.2 b hb).trans z) he new
theorem dk_new{P:Program}{w:World}{H':Hp}{h':Heap}{kvs:List (Key×V)}{vs:List (Key×Value)}(z:kvs.length≤sizeLine)(hd:(a==sysModules)=false)(rel:KV kvs vs)(dd:h'.DictOf (mixKind P w) a vs):
  ObjOk P w H' h' a (.dK kvs):=⟨z,hd,vs,rel,dd⟩
theorem d_setItem{H':Hp}{Q:Unit→Shared→Prop}(hu:A.units+1<cLine)(I:Inv X pins σ H s)(g:DPut H a y v H')(ry:RelV y u)(rv:RelV v r)(h:∀s',Inv X pins σ H' s'→Q () s'):
  wpAny (model X.prog X.w) A (setItem (.ref a) u r) Q E s:=by
 rcases g with⟨kvs,k,e,ey,l,eH⟩ | ⟨kvs,k,b,e,ey,eb,l,eH⟩
 ·subst ey eH
  obtain⟨z,hd,vs,rel,dd⟩:=dk_of I.hok e
  have hz:vs.length≤sizeLine:=by rw[←rel.length];exact z
  have hl:(putK kvs k v).length≤sizeLine:=by have:=length_putK kvs k v;omega
  refine wpAny_setItem_pairs (hsz:=hz) (kV_is ry) dd fun h' dd' hs=>h _ ?_
  have he:∃q,h'.get? a=some q:=let ⟨q,_,_,hq,_⟩:=dd';⟨q,hq⟩
  exact d_write I (by rw[e];exact True.intro) hs he (dk_new hl hd (rel.put k rv) dd')
 ·subst ey eH
  cases (show u=Value.ref b from ry)
  obtain⟨z,hd,xs,rel,dd⟩:=dt_of I.hok e
  have hz:xs.length≤sizeLine:=by rw[←Paired.length rel];exact z
  have hl:(putK kvs k v).length≤sizeLine:=by have:=length_putK kvs k v;omega
  refine wpAny_setItem_heap (hsz:=hz) (tupleKind_room_in1 hu) (key_of I.hok eb) dd fun h' dd' hs=>h _ ?_
  obtain⟨q,es,ep,hq,h2,h3,h4,_,h5⟩:=dd'
  refine d_write I (by rw[e];exact True.intro) hs ⟨q,hq⟩ ⟨hl,hd,_,(rel.put k eb rv).keeps fun c ys ec=>?_,q,es,ep,hq,h2,h3,h4,h5⟩
  rw[upd_ne (ne_of ec e (fun z=>nomatch z))]
  exact ec
end
section
variable{X:Cx}{pins:List (Addr×Obj)}{σ:St}{H:Hp}{s:Shared}{a:Addr}{kvs:List (Key×V)}{k:Key}{u:Value}{A:Around}{E:Value→Shared→Prop}
theorem d_clear{Q:Value→Shared→Prop}(I:Inv X pins σ H s)(e:H a=some (.dK kvs))(h:∀s',Inv X pins σ (upd H a (.dK [])) s'→Q .none s'):wpAny (model X.prog X.w) A (call (.builtin "dict.clear") [.ref a]) Q E s:=by
 obtain⟨z,hd,vs,rel,dd⟩:=dk_of I.hok e
 refine call_meetsIn PySem.F.slot_dict_clear dd.typeIs PySem.F.entry_dict_clear (PySem.F.args_dict_clear_1 _) (meets_dict_clear (mixKind X.prog X.w) a) ⟨vs,dd,by rw[←rel.length];exact z,fun h' dd' hs=>h _ ?_⟩
 have he:∃q,h'.get? a=some q:=let ⟨q,_,_,hq,_⟩:=dd';⟨q,hq⟩
 exact d_write (t':=s.toks) I (by rw[e];exact True.intro) hs he (dk_new (Nat.zero_le _) hd .nil dd')
theorem d_len{Q:Value→Shared→Prop}(I:Inv X pins σ H s)(e:Rd H a (.dK kvs))(h:∀t s',Inv X pins σ H s'→Q (.int kvs.length t) s'):wpAny (model X.prog X.w) A (call (.builtin "len") [.ref a]) Q E s:=by
 obtain⟨z,hd,vs,rel,dd⟩:=dk_rd I.hok e
 refine call_len_dict hd dd (by rw[←rel.length];rw[sizeLine_eq] at z;omega) ?_
 rw[←rel.length]
 exact h _ _ (I.tok _)
end
theorem dict_typeIs{X:Cx}{pins:List (Addr×Obj)}{σ:St}{H:Hp}{s:Shared}{a:Addr}{y:V}{o:Option V}(I:Inv X pins σ H s)(g:DGet H a y o):s.TypeIs (.ref a) "dict":=by
 rcases g with⟨kvs,k,e,_,_⟩ | ⟨kvs,k,b,e,_,_,_⟩
 ·obtain⟨_,_,vs,_,dd⟩:=dk_rd I.hok e
  exact dd.typeIs
 ·obtain⟨_,_,xs,_,dd⟩:=dt_rd I.hok e
  exact dd.typeIs
section
variable{X:Cx}{o i e value:Expr}{pos pos' tpos:Pos}{td ty tv:TE}
end
theorem dk_empty{P:Program}{w:World}{H:Hp}(h:Heap)(hb:sysModules<h.objs.size):ObjOk P w H (h.push {cls:= .type "dict",data:= .dict #[]}) h.objs.size (.dK []):=
 ⟨Nat.zero_le _,beq_eq_false_iff_ne.mpr (Ne.symm (Nat.ne_of_lt hb)),[],.nil,Heap.DictOf.new h⟩
def tDNewK:TE:=fun _ H Q=>∀p,H p=none→Q (.ref p) (upd H p (.dK []))
section
variable{X:Cx}{pos:Pos}
theorem pe_dnewK:PE X (.Dict [] [] pos) tDNewK:=fun pins s σ H Q I h=>
 wpAny_Dict_empty ⟨.ref s.heap.objs.size,_,I.laid (a:=s.heap.objs.size) (o:= .dK []) (t':=s.toks) (fun _ _ q=>Heap.get?_push_of_some _ q) (Nat.le_refl _) (dk_empty s.heap I.big),rfl,h _ (I.hok.fresh (Nat.le_refl _))⟩
end
def tPairs:List (TE×TE)→St→Hp→(List (V×V)→Hp→Prop)→Prop
 | [],_,H,Q=>Q [] H
 |(tk,tv)::r,σ,H,Q=>tk σ H fun x H1=>tv σ H1 fun y H2=>tPairs r σ H2 fun ps H3=>Q ((x,y)::ps) H3
abbrev VV:List (V×V)→List (Value×Value)→Prop:=Paired fun p q=>RelV p.1 q.1∧RelV p.2 q.2
def PPs(X:Cx)(pos:Pos)(keys:List (Option Expr))(values:List Expr)(trs:List (TE×TE)):Prop:=
 ∀(pins:List (Addr×Obj)) (s:Shared) (σ:St) (H:Hp) (Q:List (V×V)→Hp→Prop),Inv X pins σ H s→tPairs trs σ H Q→
  wpAny (model X.prog X.w) X.A (evalPairs (pairTrees keys values X.env pos)) (fun vs s'=>∃ps H',Inv X pins σ H' s'∧VV ps vs∧Q ps H') X.xe s
theorem pps_nil{X:Cx}{pos:Pos}:PPs X pos [] [] []:=fun pins s σ H Q I h=>pairTrees_nil_walk ⟨[],H,I,.nil,h⟩
theorem pps_cons{X:Cx}{pos:Pos}{k v:Expr}{ks:List (Option Expr)}{vs:List Expr}{tk tv:TE}{trs:List (TE×TE)}(hk:PE X k tk)(hv:PE X v tv)(hr:PPs X pos ks vs trs):
  PPs X pos (some k::ks) (v::vs) ((tk,tv)::trs):=fun pins s σ H Q I h=>
 pairTrees_cons_walk (thn (hk pins s σ H _ I h) fun u s1 ⟨x,H1,I1,rx,q1⟩=>thn (hv pins s1 σ H1 _ I1 q1) fun w2 s2 ⟨y,H2,I2,ry,q2⟩=>
  thn (hr pins s2 σ H2 _ I2 q2) fun ws s3 ⟨ps,H3,I3,rel,q3⟩=>⟨(x,y)::ps,H3,I3,.cons ⟨rx,ry⟩ rel,q3⟩)
def mergeK(kvs more:List (Key×V)):List (Key×V):=more.foldl (fun acc kv=>putK acc kv.1 kv.2) kvs
theorem KV.merge:∀{more:List (Key×V)} {rs:List (Key×Value)} {kvs:List (Key×V)} {vs:List (Key×Value)},KV more rs→KV kvs vs→KV (mergeK kvs more) (merged vs rs):=by
 intro more rs kvs vs r
 unfold KV at r
 induction r generalizing kvs vs with
 | nil=>intro q;exact q
 | @cons p q ps qs h t ih=>
  intro r0
  have e:KV (putK kvs p.1 p.2) (stored vs q.1 q.2):=by
   have:=r0.put p.1 h.2
   rw[←h.1];exact this
  exact ih e
theorem length_mergeK:∀(more kvs:List (Key×V)),(mergeK kvs more).length≤kvs.length+more.length
 | [],kvs=>by show kvs.length≤kvs.length+0;omega
 | p::r,kvs=>by
  have h1:=length_mergeK r (putK kvs p.1 p.2)
  have h2:=length_putK kvs p.1 p.2
  show(mergeK (putK kvs p.1 p.2) r).length≤_
  rw[List.length_cons];omega
theorem carries_of{P:Program}{w:World}:∀{kvs:List (Key×V)} {ws:List (Value×Value)},VV (kvs.map fun kv=>(kV kv.1,kv.2)) ws→∃rs,Carries (mixKind P w) ws rs∧KV kvs rs
 | [],_,r=>by rw[List.map_nil] at r;cases r;exact⟨[],True.intro,.nil⟩
 | p::kvs,_,r=>by
  rw[List.map_cons] at r
  cases r with
  | @cons a b as bs h t=>
   obtain⟨rs,c,q⟩:=carries_of (P:=P) (w:=w) t
   obtain⟨b1,b2⟩:=b
   exact⟨(p.1,b2)::rs,⟨kV_is h.1,rfl,c⟩,.cons ⟨rfl,h.2⟩ q⟩
def tDisp(trs:List (TE×TE)):TE:=fun σ H Q=>∀p,H p=none→tPairs trs σ (upd H p (.dK [])) fun ps H2=>H2 p=some (.dK [])∧∃kvs:List (Key×V),ps=kvs.map (fun kv=>(kV kv.1,kv.2))∧kvs.length≤15∧Q (.ref p) (upd H2 p (.dK (mergeK [] kvs)))
theorem pe_disp{X:Cx}{pos:Pos}{keys:List (Option Expr)}{values:List Expr}{trs:List (TE×TE)}(h:PPs X pos keys values trs)(hall:keys.all (·.isSome)=true)(hl:keys.length=values.length)(h0:keys≠[])
  (h15:keys.length≤15):PE X (.Dict keys values pos) (tDisp trs):=by
 intro pins s σ H Q I q
 have hn:=I.hok.fresh (Nat.le_refl s.heap.objs.size)
 have I1:=I.laid (a:=s.heap.objs.size) (o:= .dK []) (h':=s.heap.push {cls:= .type "dict",data:= .dict #[]}) (t':=s.toks) (fun _ _ q=>Heap.get?_push_of_some _ q) (Nat.le_refl _) (dk_empty s.heap I.big)
 refine wpAny_Dict_walk (knd:=mixKind X.prog X.w) hall hl h0 h15 (thn (h pins _ σ _ _ I1 (q _ hn)) fun ws s2 ⟨ps,H2,I2,rel,e,kvs,ep,lk,q2⟩=>?_)
 subst ep
 obtain⟨rs,c,rk⟩:=carries_of (P:=X.prog) (w:=X.w) rel
 obtain⟨z,hd,vs0,r0,dd⟩:=dk_of I2.hok e
 cases r0
 refine⟨rs,c,dd,fun h' dd' hs=>⟨.ref s.heap.objs.size,_,?_,rfl,q2⟩⟩
 have hz:(mergeK [] kvs).length≤sizeLine:=by
  have h1:=length_mergeK kvs []
  rw[List.length_nil] at h1
  rw[sizeLine_eq];omega
 have he:∃q,h'.get? s.heap.objs.size=some q:=let ⟨q,_,_,hq,_⟩:=dd';⟨q,hq⟩
 exact d_write I2 (by rw[e];exact True.intro) hs he (dk_new hz hd (rk.merge .nil) dd')
structure M1(X:Cx)(o:Expr)(m:Str)(apos:Pos)(e:Expr)(cpos:Pos):Prop where
 base:attributeBase o m X.env (eval o X.env)=eval o X.env
 few:((backTo cpos (starEach [e] X.env)).all (fun x=> !x.1)&&(backToKw cpos (keywordEach [] X.env)).all (fun x=>x.1.isSome)
  &&decide (([e]:List Expr).length+([]:List Keyword).length+(if ([]:List Keyword).isEmpty then 0 else 1)<30))=true
 line:(apos.endLine==cpos.line)=true
 trees:backTo cpos (starEach [e] X.env)=[(false,eval e X.env)]
structure M2(X:Cx)(o:Expr)(m:Str)(apos:Pos)(e f:Expr)(cpos:Pos):Prop where
 base:attributeBase o m X.env (eval o X.env)=eval o X.env
 few:((backTo cpos (starEach [e,f] X.env)).all (fun x=> !x.1)&&(backToKw cpos (keywordEach [] X.env)).all (fun x=>x.1.isSome)
  &&decide (([e,f]:List Expr).length+([]:List Keyword).length+(if ([]:List Keyword).isEmpty then 0 else 1)<30))=true
 line:(apos.endLine==cpos.line)=true
 trees:backTo cpos (starEach [e,f] X.env)=[(false,eval e X.env),(false,eval f X.env)]
section
variable{X:Cx}{pins:List (Addr×Obj)}{σ:St}{H:Hp}{s:Shared}{a:Addr}{y d:V}{u r:Value}{o:Option V}{A:Around}{E:Value→Shared→Prop}
theorem d_get2{Q:Value→Shared→Prop}(hu:A.units+1<cLine)(I:Inv X pins σ H s)(g:DGet H a y o)(ry:RelV y u)(rd:RelV d r)(h:∀w' s',Inv X pins σ H s'→RelV (o.getD d) w'→Q w' s'):
  wpAny (model X.prog X.w) A (call (.builtin "dict.get") [.ref a,u,r]) Q E s:=by
 rcases g with⟨kvs,k,e,ey,l⟩ | ⟨kvs,k,b,e,ey,eb,l⟩
 ·subst ey
  obtain⟨z,hd,vs,rel,dd⟩:=dk_rd I.hok e
  refine call_meetsIn PySem.F.slot_dict_get dd.typeIs PySem.F.entry_dict_get (PySem.F.args_dict_get_3 _ _ _) (meets_dict_get_default (mixKind X.prog X.w) a (kV_is ry) hd r) ⟨_,dd.mapOf,h _ _ (I.tok _) ?_⟩
  rw[l]
  exact(rel.val k).getD rd
 ·subst ey
  cases (show u=Value.ref b from ry)
  obtain⟨z,hd,xs,rel,dd⟩:=dt_rd I.hok e
  refine call_meetsIn PySem.F.slot_dict_get dd.typeIs PySem.F.entry_dict_get (PySem.F.args_dict_get_3 _ _ _) (meetsH_dict_get_default (tupleKind (mixKind X.prog X.w)) a b hd r) ⟨tupleKind_room_in1 hu,k,xs,key_of I.hok eb,dd,h _ _ (I.tok _) ?_⟩
  rw[l]
  exact(rel.val k).getD rd
end
section
variable{X:Cx}{o e f:Expr}{apos cpos:Pos}{td ty tx:TE}
end
section
variable{X:Cx}{pins:List (Addr×Obj)}{σ:St}{H:Hp}{s:Shared}{a:Addr}{kvs:List (Key×V)}{A:Around}{E:Value→Shared→Prop}
theorem d_copyOf{Q:Value→Shared→Prop}(I:Inv X pins σ H s)(e:Rd H a (.dK kvs))(h:∀p s',H p=none→Inv X pins σ (upd H p (.dK kvs)) s'→Q (.ref p) s'):wpAny (model X.prog X.w) A (call (.type "dict") [.ref a]) Q E s:=by
 obtain⟨z,hd,vs,rel,dd⟩:=dk_rd I.hok e
 refine kt_call_dict hd dd (by rw[←rel.length];exact z) fun h' dd' hs=>?_
 refine h _ _ (I.hok.fresh (Nat.le_refl _)) (I.laid (a:=s.heap.objs.size) (o:= .dK kvs) (t':=s.toks) (fun b q hq=>?_) (Nat.le_refl _) (dk_new z (beq_eq_false_iff_ne.mpr (Ne.symm (Nat.ne_of_lt I.big))) rel dd'))
 exact(hs.2 b (Nat.ne_of_lt (Heap.lt_size hq))).trans (Heap.get?_push_of_some _ hq)
end
section
variable{X:Cx}{pins:List (Addr×Obj)}{σ:St}{H:Hp}{s:Shared}{a:Addr}{y:V}{u:Value}{A:Around}{E:Value→Shared→Prop}
end
end L2
namespace Att
open PySem PySem.W PySem.Calls PyProof.Rows
theorem ints_of_wellAll{P:Params}{h:Heap}:∀(ns:List Int) (vs:List Value),WellAll P h vs (ns.map WData.int)→IntsAre vs ns:=by
 intro ns
 induction ns with
 | nil=>
  intro vs w
  rw[List.map_nil] at w
  cases w
  exact .nil
 | cons n ns ih=>
  intro vs w
  rw[List.map_cons] at w
  cases w with
  | cons a b=>
   cases a
   exact .cons _ _ (ih _ b)
theorem script_of{l:OpenLaw}{n:Nat}(hn:l.most=some n){P:Params}{h:Heap}{args:List WData}{vals:List Value}
  (hpre:l.row.toRowW.claim.pre args=true) (hwl:WellAll P h vals args):
  ∃a vs ns,vals=[Value.ref a]∧args=[WData.list (ns.map WData.int)]∧h.get? a=some {cls:= .type "list",data:= .seq vs.toArray}∧IntsAre vs ns∧ns.length≤n:=by
 have hsh:WShape.hasAll [] args [.list .int]=true:=(pre_splitW hpre).1
 have hc:l.pre.holds [] {args:=args}=true:=(pre_splitW hpre).2
 obtain⟨d,r,rfl,h1,h2⟩:=hasAllW_cons hsh
 obtain rfl:=hasAllW_nil h2
 obtain⟨xs,rfl,h3⟩:=hasW_list h1
 obtain⟨ns,rfl⟩:=items_int h3
 have hlen:ns.length≤n:=by
  unfold OpenLaw.pre at hc
  have h4:(WTm.not (.lt (.lit (.int (n:Int))) (.len (.arg 0)))).holds [] {args:=[.list (ns.map .int)]}=true:=by
   have h4:=(holds_andW hc).1
   rw[hn] at h4
   exact h4
  have h5:=condW_of h4 (w_not (w_lt w_lit (w_len_list (w_arg rfl))))
  rw[List.length_map] at h5
  refine Nat.le_of_not_lt fun q=>?_
  have q':(n:Int)< ((ns.length:Nat):Int):=by omega
  first
   |(rw[decide_eq_true q'] at h5;exact absurd h5 (by decide))
   |(simp at h5;omega)
 cases hwl with
 | cons w1 w2=>
  cases w2
  cases w1 with
  | list ho hall=>exact⟨_,_,ns,rfl,rfl,ho,ints_of_wellAll ns _ hall,hlen⟩
theorem post_true(l:OpenLaw)(args:List WData):l.row.toRowW.claim.post args (.bool true) args=true:=
 postW_of (r:=l.row.toRowW) (X:=(true==true))
  (show WShape.has [] (.bool true) .bool=true by first | rfl | decide | simp[WShape.has,WShape.arms,WShape.armsAll])
  (show(WTm.eq .res (.lit (.bool true))).value [] {args:=args,res:=some (.bool true),after:=args}=some (.bool (true==true)) from w_eq_bool (w_res rfl) w_lit) rfl
section
variable{prog:Program}{w:World}{A:Around}{E:Value→Shared→Prop}{s:Shared}{K:Frag}
end
end Att
namespace L2
open PySem PySem.Spec PyProof.Rows
theorem vals_ints:∀{vs:List Value} {ns:List Int},IntsAre vs ns→Vals (ns.map V.int) vs
 | _,_,.nil=> .nil
 | _,_,.cons n t h=> .cons ⟨t,rfl⟩ (vals_ints h)
def Only(H:Hp):Prop:=∀b,H b=none∨∃o xs,H b=some (.frz o (.lst xs))
theorem law_call{P:Program}{w:World}{K:PySem.W.Frag}{mg mb:Str→Option Value}{CX:CXT}{k:Nat}{fa a:Addr}{fd:FuncData}{x:Str}{sp:Sp}{s₁:Shared}{vs:List Value}{ns:List Int}
  (KX:K.In s₁.heap) (hns:s₁.heap.Ns mainGlobals mg) (hb:s₁.heap.Ns builtinsNs mb) (hbb:∀x:Str,x≠"__name__"→mb x=bootBuiltins x) (hlim:s₁.heap.NoLimit) (hg:s₁.gens=#[])
  (ha:s₁.heap.get? a=some {cls:= .type "list",data:= .seq vs.toArray}) (hi:IntsAre vs ns) (hl:ns.length≤sizeLine) (hr:Room k callerA)
  (F:∀base:Heap,K.In base→base.Ns mainGlobals mg→FnOk P w K mg base CX k fa fd [x] sp) (hbind:∀(s:Shared) (u:Value),BindsTo s fd ⟨[u],[]⟩ [(x,u)])
  (hsp:∀H:Hp,Only H→SqL K H a (ns.map V.int)→sp [.ref a] H (fun v _=>v= .bl true) fun _ _ _=>False)
  (hCX:∀H e s',CX [] H s₁ (fun _ _ _=>False) e s'→False):
  codeAny (model P w) callerA (.call (.ref fa) ⟨[.ref a],[]⟩) (fun r s'=>r= .ok (.ret (.bool true))∧OldK s₁.heap s'.heap∧s'.os=s₁.os∧AllBare s'.gens) s₁:=by
 have rv:=vals_ints hi
 have lenV:=hi.length
 have core:∀H:Hp,Only H→SqL K H a (ns.map V.int)→HOk P w H s₁.heap→(∀b,H b≠none→b=a)→(H a≠none→K.lookup a=none)→
   codeAny (model P w) callerA (.call (.ref fa) ⟨[.ref a],[]⟩) (fun r s'=>r= .ok (.ret (.bool true))∧OldK s₁.heap s'.heap∧s'.os=s₁.os∧AllBare s'.gens) s₁:=by
  intro H hO hS hok hA hK
  have base_of:∀{b:Addr} {o:Obj},s₁.heap.get? b=some o→H b=none→(hidT s₁.heap H).get? b=some o:=fun e n=>hidT_get e n
  have noA:∀{b:Addr} {o:Obj} {es:Array DictEntry} {ep:Nat},s₁.heap.get? b=some o→o.data= .dict es ep→H b=none:=fun{b o es ep} e d=>by
   cases q:H b with
   | none=>rfl
   | some u=>
    have e':b=a:=hA b (by rw[q];simp)
    subst e'
    rw[ha] at e;cases e
    have d':Data.seq vs.toArray _=Data.dict es ep:=d
    cases d'
  have nsK:∀{b:Addr} {m:Str→Option Value},s₁.heap.Ns b m→(hidT s₁.heap H).Ns b m:=fun{b m} ⟨o,es,ep,e,d,r⟩=>⟨o,es,ep,base_of e (noA e d),d,r⟩
  have hKb:K.In (hidT s₁.heap H):=fun b o e=>base_of (KX b o e) (by
   cases q:H b with
   | none=>rfl
   | some u=>
    have e':b=a:=hA b (by rw[q];simp)
    subst e'
    rw[hK (by rw[q];simp)] at e;cases e)
  have hM:Mod K mg (hidT s₁.heap H):=⟨hKb,nsK hns,⟨mb,nsK hb,hbb⟩,let ⟨mc,h1,h2⟩:=hlim;⟨mc,nsK h1,h2⟩⟩
  have e0:Env0 P w K mg (hidT s₁.heap H) callerA [] s₁ H:=⟨rfl,hM,fun b o e=>of_hidT e,Nat.le_of_eq (hidT_size _ _),trivial,fun b hb=>absurd (show b∈([]:List Addr) from hb) (by simp),hok,.of_eq hg⟩
  refine codeAny_mono ((F _ hKb (nsK hns)).run callerA [] s₁ H ⟨[.ref a],[]⟩ [.ref a] [.ref a] _ _ hr e0 (hbind s₁ (.ref a)) (.cons rfl .nil) (hsp H hO hS)) fun r s' h=>?_
  cases r with
  | error e=>exact(hCX H e s' h).elim
  | ok fl=>
   cases fl with
   | next=>exact False.elim h
   | brk=>exact False.elim h
   | cont=>exact False.elim h
   | ret u=>
    obtain⟨v,H',os,bare,un,hok',r',q⟩:=h
    have q':v= .bl true:=q
    subst q'
    obtain rfl:u=Value.bool true:=r'
    refine⟨rfl,OldK.of_keep fun b o e=>?_,os,bare⟩
    cases q:H b with
    | none=>exact un.keep b o e q (by intro z;exact absurd (show b∈([]:List Addr) from z) (by simp)) (by simp)
    | some u=>
     rcases hO b with z | ⟨ob,xs,z⟩
     ·rw[q] at z;cases z
     ·have z2:=un.frzs b ob _ z
      obtain⟨e1,_⟩:=hok b _ z
      obtain⟨e2,_⟩:=hok' b _ z2
      rw[e] at e1;cases e1
      exact e2
 cases hk:K.lookup a with
 | some o=>
  have e:=KX a o hk
  rw[ha] at e
  cases e
  refine core (fun _=>none) (fun _=> .inl rfl) (.inr ⟨_,vs.toArray,_,hk,rfl,rfl,rfl,by rw[List.size_toArray,lenV];exact hl,by simpa using rv⟩) (fun b u z=>by have z':(none:Option HO)=some u:=z;cases z') (fun b z=>absurd rfl z) fun z=>absurd rfl z
 | none=>
  refine core (fun b=>if b=a then some (.frz {cls:= .type "list",data:= .seq vs.toArray} (.lst (ns.map V.int))) else none) (fun b=>?_) (.inl (.inr ⟨{cls:= .type "list",data:= .seq vs.toArray},if_pos rfl⟩)) (fun b u z=>?_) (fun b z=>?_) fun _=>hk
  ·by_cases hb:b=a
   ·exact .inr ⟨_,_,if_pos hb⟩
   ·exact .inl (if_neg hb)
  ·by_cases hb:b=a
   ·have z':=(if_pos hb).symm.trans z
    cases z'
    subst hb
    exact⟨ha,by rw[List.length_map];exact hl,vs,_,rv,ha⟩
   ·have z':=(if_neg hb).symm.trans z
    cases z'
  ·by_cases hb:b=a
   ·exact hb
   ·exact absurd (if_neg hb) z
end L2
/- THE LAST THEOREM (shape;LID,My.* are yours):
  My.Adr:a structure of the addresses that your layer names (classes,functions);My.Txt K t:a structure (Prop) of the equations over K;
  My.txt_mk:{K} {implicit addresses ..} (e1:nsIn K mainGlobals "law"=some (some (.ref f))) (e2:K.lookup f=some ⟨oc,od,.func (fnOf "law" "law" params body scope dV kV doc pm an cdv ct),sl⟩) (e3:codeIn K cdv "law"=true) ..:∃t,My.Txt K t
set_option maxRecDepth 100000 in
set_option maxHeartbeats 0 in
theorem PySem.Challenge.cw_LID_holds : PySem.Challenge.rw_LID.Holds := by
 w_on;o_law;k_head;(case hw=>w_witness2)
 k_fill
 refine L2.walk_of (l:=PySem.Challenge.rw_LID) (n:=63) (k:=40) (x:="script") (CX:=fun w=> ..) (sp:=fun _=>My.sp_law) rfl (by decide) rfl ⟨rfl,by decide,by decide⟩ (fun w h Y=>PySem.W.kIn_of Y) ?F ?S ?C
 case F=>
  intro w mg fa h KX G hmg
  have T:∃t,My.Txt (L2.KOf KX) t:=by
   dsimp only[L2.KOf] -- K must stand as «<heap const>w.params» for k_is
   refine' My.txt_mk ?e1 ?e2 ?e3 ..
   (case e1=>PySem.W.k_is) -- in the order:a name ->its address ->its object ->its parts
   (case e2=>PySem.W.k_is)
   ..
  obtain⟨t,T⟩:=T
  have e0:=hmg.symm.trans (PySem.W.mg_of KX G T.law)
  cases e0 -- fa is the law's own address
  exact⟨_,fun s u=> .of_eq rfl,fun base kb nb=>My.law_fn T kb nb⟩ -- if «.of_eq rfl» comes too early:refine' ⟨_,?b,fun base kb nb=>My.law_fn T kb nb⟩;exact fun s u=> .of_eq rfl
 case S=>exact fun w H a ns hl hO hS=> ..
 case C=>exact ..
(the tactic k_is has no namespace:write k_is) -/
namespace L2
open PySem PySem.Spec PyProof.Rows
def defArgs(s:Stmt):Arguments:=match s with
 | .FunctionDef _ a _ _ _ _ _ _ _ _=>a
 | _=>{posonlyargs:=[],args:=[],vararg:=none,kwonlyargs:=[],kw_defaults:=[],kwarg:=none,defaults:=[]}
def defBody(s:Stmt):List Stmt:=match s with
 | .FunctionDef _ _ b _ _ _ _ _ _ _=>b
 | _=>[]
def defScope(s:Stmt):Scope:=match s with
 | .FunctionDef _ _ _ _ _ _ sc _ _ _=>sc
 | _=>{kind:= .function,names:=[],isGenerator:=false,isCoroutine:=false}
abbrev CX0:CXT:=fun _ _ _ _ _ _=>False
abbrev E0:XK:=fun _ _ _=>False
structure Fun(K:PySem.W.Frag)(x qual:Str)(st:Stmt)(f:Addr)(fd:FuncData):Prop where
 ex:∃(oc:Value) (od:Option Addr) (dV kV doc pm:Value) (an:Option Addr) (cdv ct:Value) (osl:Array (Option Value)),
  fd=PySem.W.fnOf x qual (defArgs st) (defBody st) (defScope st) dV kV doc pm an cdv ct∧K.lookup f=some ⟨oc,od,.func fd,osl⟩∧PySem.W.codeIn K cdv qual=true
 kp:PySem.W.keepIn K (.ref f)=true
section
variable{P:Program}{w:World}{K:PySem.W.Frag}{mg:Str→Option Value}{base:Heap}
theorem Fun.ok{x qual:Str}{st:Stmt}{f:Addr}{fd:FuncData}{N ps:List Str}{k:Nat}{sp:Sp}(F:Fun K x qual st f fd)(S:FnScope N ps (defScope st))(len:∀vs H Q E,sp vs H Q E→vs.length=ps.length)
  (hbody:∀(cdv:Value) (A:Around) (outer:List Env) (s:Shared) (H:Hp) (vs:List V) (Q:VK) (E:XK),Room k (A.deeper (envOfC qual (defScope st) s.heap.objs.size f cdv))→sp vs H Q E→
   ∃t,PSs (cxOf CX0 P w K mg base N qual (defScope st) f cdv A outer s H E).nox (defBody st) t∧t {nx:=fun _ H'=>Q .non H',rt:=Q} (start N vs) H):FnOk P w K mg base CX0 (k+1) f fd ps sp:=by
 obtain⟨oc,od,dV,kV,doc,pm,an,cdv,ct,osl,rfl,lk,hcd⟩:=F.ex
 refine fn_of lk hcd S len fun A outer s H vs Q E hr hsp=>?_
 obtain⟨t,h,q⟩:=hbody cdv A outer s H vs Q E hr hsp
 exact⟨t,h.nox,q⟩
theorem fun_mk{x qual:Str}{st:Stmt}{f:Addr}{oc:Value}{od an:Option Addr}{osl:Array (Option Value)}{dV kV doc pm cdv ct:Value}(l:K.lookup f=some ⟨oc,od,.func (PySem.W.fnOf x qual (defArgs st) (defBody st) (defScope st) dV kV doc pm an cdv ct),osl⟩)
  (c:PySem.W.codeIn K cdv qual=true) (k:PySem.W.keepIn K (.ref f)=true):Fun K x qual st f (PySem.W.fnOf x qual (defArgs st) (defBody st) (defScope st) dV kV doc pm an cdv ct):=⟨⟨oc,od,dV,kV,doc,pm,an,cdv,ct,osl,rfl,l,c⟩,k⟩
end
section
variable{X:Cx}
end
section
variable{X:Cx}
theorem call_lenD:CallR X (.builtin "len") (fun xs H Q=>∃a kvs,xs=[V.ref a]∧H a=some (.dK kvs)∧Q (.int kvs.length) H):=by
 intro pins s σ H xs us Q I r h
 obtain⟨a,kvs,rfl,ha,q⟩:=h
 obtain⟨u,rfl,ru⟩:=vals1 r
 cases ru
 exact d_len I (.inl ha) fun t s' I'=>⟨.int kvs.length,H,I',⟨t,rfl⟩,q⟩
end
section
variable{κ:Type}[DecidableEq κ]
end
end L2
namespace L3
open PySem PySem.Spec PyProof.Rows L2
def Bits(n:Nat)(x:Int):Prop:=x.natAbs<2 ^ n
theorem log2_lt_of{m n:Nat}(h:m<2 ^ n)(hn:0<n):m.log2<n:=by
 rcases Nat.eq_zero_or_pos m with h0 | h0
 ·rw[h0];exact hn
 ·exact(Nat.log2_lt (Nat.ne_of_gt h0)).mpr h
theorem intBits_le{n:Nat}{x:Int}(h:Bits n x):Builtin.Int.intBits x≤n:=by
 unfold Builtin.Int.intBits
 split
 ·exact Nat.zero_le _
 ·rename_i h0
  have h1:x≠0:=by simpa using h0
  have h2:x.natAbs≠0:=by omega
  exact(Nat.log2_lt h2).mpr h
theorem Bits.mono{n m:Nat}{x:Int}(h:Bits n x)(k:n≤m):Bits m x:=Nat.lt_of_lt_of_le h (Nat.pow_le_pow_right (by decide) k)
theorem Bits.add{n:Nat}{x y:Int}(hx:Bits n x)(hy:Bits n y):Bits (n+1) (x+y):=by
 unfold Bits at *
 rw[Nat.pow_succ]
 omega
theorem mulOk_of{n m:Nat}{a b:Int}(ha:Bits n a)(hb:Bits m b)(h:n+m≤134217728):IntMulOk a b:=by
 unfold IntMulOk
 intro z
 have h1:=intBits_le ha
 have h2:=intBits_le hb
 rw[Bool.and_eq_true] at z
 have z2:=z.2
 unfold Builtin.Int.intTooBig at z2
 have z3:=of_decide_eq_true z2
 rw[bitsLine_eq] at z3
 omega
section
variable{X:Cx}
def CDivB(_ j:Int):Prop:=j≠0∧j.natAbs.log2<9000
theorem op_fdivB:OpR X (binaryOp .FloorDiv) (rI CDivB fun i j=> .int (i.fdiv j)):=opI fun _ _ _ _ _ _ _ hc q=>floordiv_int hc.1 q (.inl (PyProof.noPylong_of_log2 hc.2))
theorem op_mulB:OpR X (binaryOp .Mult) (rI IntMulOk fun i j=> .int (i * j)):=opI fun _ _ _ _ _ _ _ hc q=>mul_int q hc
def rIsB(K:PySem.W.Frag):List V→Hp→VK→Prop:=fun xs H Q=>∃x n t b,xs=[x,.ty n]∧TyOf K H x t∧PySem.W.kitOne K t (.type n)=some b∧Q (.bl b) H
theorem call_isB:CallR X (.builtin "isinstance") (rIsB X.K):=by
 intro pins s σ H xs us Q I r h
 obtain⟨x,n,t,b,rfl,ty,e,q⟩:=h
 obtain⟨u,v,rfl,ru,rv⟩:=vals2 r
 obtain rfl:v=Value.type n:=rv
 exact isinst_ok I ru ty e fun tk=>⟨.bl b,H,I.tok tk,rfl,q⟩
end
mutual
def Rep(K:PySem.W.Frag)(H:Hp):PyData→V→Prop
 | .none,v=>v= .non
 | .bool b,v=>v= .bl b
 | .int i,v=>v= .int i
 | .str x,v=>v= .str x
 | .list ds,v=>∃a xs,v= .ref a∧SqL K H a xs∧RepAll K H ds xs
 | .tuple ds,v=>∃a xs,v= .ref a∧SqT K H a xs∧RepAll K H ds xs
 | .dict _,_=>False
def RepAll(K:PySem.W.Frag)(H:Hp):List PyData→List V→Prop
 | [],xs=>xs=[]
 | d::ds,xs=>∃v vs,xs=v::vs∧Rep K H d v∧RepAll K H ds vs
end
section
variable{X:Cx}{pins:List (Addr×Obj)}{σ:L2.St}{H:Hp}{s:Shared}
mutual
theorem Rep.reads(I:Inv X pins σ H s):∀(d:PyData) (v:V) (u:Value),Rep X.K H d v→RelV v u→∃as,Reads s.heap u d as
 | .none,v,u,h,r=>by
  unfold Rep at h;subst h
  cases (show u=Value.none from r)
  exact⟨[],.none⟩
 | .bool b,v,u,h,r=>by
  unfold Rep at h;subst h
  cases (show u=Value.bool b from r)
  exact⟨[],.bool b⟩
 | .int i,v,u,h,r=>by
  unfold Rep at h;subst h
  obtain⟨t,rfl⟩:=(show ∃t,u=Value.int i t from r)
  exact⟨[],.int i t⟩
 | .str x,v,u,h,r=>by
  unfold Rep at h;subst h
  obtain⟨t,rfl⟩:=(show ∃t,u=Value.str x t from r)
  exact⟨[],.str x t⟩
 | .list ds,v,u,h,r=>by
  unfold Rep at h
  obtain⟨a,xs,rfl,hq,ha⟩:=h
  cases (show u=Value.ref a from r)
  obtain⟨its,rv,⟨o,n,h1,h2,_,h4⟩,_⟩:=I.list hq
  obtain⟨as,hr⟩:=RepAll.reads I ds xs its ha rv
  exact⟨_,.list h1 h2 h4 hr⟩
 | .tuple ds,v,u,h,r=>by
  unfold Rep at h
  obtain⟨a,xs,rfl,hq,ha⟩:=h
  cases (show u=Value.ref a from r)
  obtain⟨its,rv,⟨o,h1,h2,n,h4⟩,_⟩:=I.tuple hq
  obtain⟨as,hr⟩:=RepAll.reads I ds xs its ha rv
  exact⟨_,.tuple h1 h2 h4 hr⟩
 | .dict kvs,v,u,h,r=>by
  unfold Rep at h
  exact h.elim
theorem RepAll.reads(I:Inv X pins σ H s):∀(ds:List PyData) (xs:List V) (us:List Value),RepAll X.K H ds xs→Vals xs us→∃as,ReadsAll s.heap us ds as
 | [],xs,us,h,r=>by
  unfold RepAll at h;subst h
  cases r
  exact⟨[],.nil⟩
 | d::ds,xs,us,h,r=>by
  unfold RepAll at h
  obtain⟨v,vs,rfl,h1,h2⟩:=h
  cases r with
  | cons r1 r2=>
   obtain⟨as,q1⟩:=Rep.reads I d v _ h1 r1
   obtain⟨bs,q2⟩:=RepAll.reads I ds vs _ h2 r2
   exact⟨_,.cons q1 q2⟩
end
end
section
variable{X:Cx}
def rEqD(K:PySem.W.Frag)(neg:Bool):R2:=fun x y H Q=>∃da db,Rep K H da x∧Rep K H db y∧da.canLay0=true∧db.canLay0=true∧min da.depth db.depth≤60∧Q (.bl (if neg then !PyData.eqv da db else PyData.eqv da db)) H
theorem op_eqD(hu:X.A.units+64<cLine):OpR X (compareOp .Eq) (rEqD X.K false):=by
 intro pins s σ H x y v u Q I rx ry h
 obtain⟨da,db,h1,h2,h3,h4,h5,q⟩:=h
 obtain⟨as,q1⟩:=Rep.reads I da x v h1 rx
 obtain⟨bs,q2⟩:=Rep.reads I db y u h2 ry
 exact PySem.SeqAt.compareEq_reads q1 q2 h3 h4 (by omega) ⟨.bl _,H,I,rfl,q⟩
end
end L3
namespace L3
open PySem PySem.W PySem.Calls PyProof.Rows L2
def bigN:Nat:=1048576
theorem weight_ints:∀(ns:List Int) (i:Int),i∈ns→WData.weight (.int i)≤WData.weightAll (ns.map WData.int)
 | [],_,h=>nomatch h
 | n::r,i,h=>by
  rw[List.map_cons]
  have e:WData.weightAll (WData.int n::r.map WData.int)=WData.weight (.int n)+1+WData.weightAll (r.map WData.int):=by simp[WData.weightAll]
  rw[e]
  rcases List.mem_cons.mp h with q | q
  ·subst q;omega
  ·have:=weight_ints r i q;omega
theorem bits_of_layable{ns:List Int}(h:WData.layableAll [WData.list (ns.map WData.int)]=true):∀i∈ns,Bits bigN i:=by
 intro i hi
 have h1:WData.layable (WData.list (ns.map WData.int))=true:=by simpa[WData.layableAll] using h
 unfold WData.layable at h1
 rw[Bool.and_eq_true] at h1
 have h2:WData.weight (WData.list (ns.map WData.int))≤2 ^ 20:=of_decide_eq_true h1.2
 have h3:WData.weight (WData.list (ns.map WData.int))=WData.weightAll (ns.map WData.int):=by simp[WData.weight]
 have h4:=weight_ints ns i hi
 have h5:WData.weight (.int i)=if i==0 then 0 else i.natAbs.log2+1:=by simp[WData.weight]
 unfold Bits bigN
 by_cases h0:i=0
 ·subst h0;exact Nat.two_pow_pos _
 ·have hb:(i==0)=false:=by simpa using h0
  rw[hb] at h5
  have h6:i.natAbs.log2<1048576:=by
   have:(2:Nat) ^ 20=1048576:=by decide
   simp only[Bool.false_eq_true,if_false] at h5
   omega
  exact(Nat.log2_lt (by omega)).mp h6
theorem attach_callB{l:OpenLaw}{n:Nat}{q:Program}{loose:List Str}{XP:(Str→Option Value)→Heap→Prop}{YP:World→Heap→Prop}{d:DefRec}(hn:l.most=some n)(hdf:d.params.defaults=[])
  (call:∀(w:World) (s₀ s₁:Shared) (mg mb:Str→Option Value) (fa:Addr) (o:Obj) (pm cd doc:Value) (a:Addr) (vs:List Value) (ns:List Int),
   Ground q loose [] XP w s₀ mg mb s₁.heap→YP w s₁.heap→mg d.name=some (.ref fa)→
   s₁.heap.get? a=some {cls:= .type "list",data:= .seq vs.toArray}→IntsAre vs ns→ns.length≤n→(∀i∈ns,Bits bigN i)→s₁.gens=#[]→
   codeAny (model l.prog w) callerA (.call (.ref fa) ⟨[.ref a],[]⟩) (fun r s'=>r= .ok (.ret (.bool true))∧OldK s₁.heap s'.heap∧s'.os=s₁.os∧AllBare s'.gens) s₁):
  WalkO q loose XP YP l.row.toRowW d [] (fun f vs=>PySem.call f vs):=by
 intro w s₀ s₁ mg mb G Y fa o pm cd doc dV kV ho hd hcd hD hmg hg args vals as hpre hlay hrd hwl hlo
 obtain⟨a,vs,ns,rfl,rfl,hobj,hints,hlen⟩:=Att.script_of hn hpre hwl
 refine enter_call (codeAny_mono (call w s₀ s₁ mg mb fa o pm cd doc a vs ns G Y hmg hobj hints hlen (bits_of_layable hlay) hg) fun r s' hq=>?_)
 obtain⟨rfl,h2,h3,h4⟩:=hq
 exact⟨.inl ⟨.bool true,.bool true,[],rfl,fun _=>rfl,.bool true,Att.post_true l _,fun _=>⟨List.Pairwise.nil,fun _ hm=>(nomatch hm)⟩⟩,h2,h3,h4⟩
theorem walk_B{l:PySem.W.OpenLaw}{n k:Nat}{q:Program}{loose:List Str}{XP:(Str→Option Value)→Heap→Prop}{YP:World→Heap→Prop}{d:DefRec}{K:Params→PySem.W.Frag}{CX:World→CXT}{sp:World→Sp}{x:Str}
  (hn:l.most=some n) (hn2:n≤sizeLine) (hdf:d.params.defaults=[]) (hr:Room k callerA) (hY:∀(w:World) (h:Heap),YP w h→(K w.params).In h)
  (F:∀(w:World) (mg:Str→Option Value) (fa:Addr) (h:Heap),(K w.params).In h→h.Ns mainGlobals mg→mg d.name=some (.ref fa)→
   ∃fd:FuncData,(∀(s:Shared) (u:Value),BindsTo s fd ⟨[u],[]⟩ [(x,u)])∧∀base:Heap,(K w.params).In base→base.Ns mainGlobals mg→FnOk l.prog w (K w.params) mg base (CX w) k fa fd [x] (sp w))
  (hsp:∀(w:World) (H:Hp) (a:Addr) (ns:List Int),ns.length≤n→(∀i∈ns,Bits bigN i)→Only H→SqL (K w.params) H a (ns.map V.int)→sp w [.ref a] H (fun v _=>v= .bl true) fun _ _ _=>False)
  (hCX:∀(w:World) (H:Hp) (s:Shared) (e:Value) (s':Shared),CX w [] H s (fun _ _ _=>False) e s'→False):
  PySem.W.WalkO q loose XP YP l.row.toRowW d [] (fun f vs=>PySem.call f vs):=by
 refine attach_callB hn hdf fun w s₀ s₁ mg mb fa o pm cd doc a vs ns G Y hmg hobj hints hlen hbits hg=>?_
 have KX:=hY w _ Y
 obtain⟨fd,hb,hF⟩:=F w mg fa _ KX G.T.g hmg
 exact law_call KX G.T.g G.T.b G.T.builtins G.T.nolimit hg hobj hints (Nat.le_trans hlen hn2) hr hF hb (fun H hO hS=>hsp w H a ns hlen hbits hO hS) fun H e s'=>hCX w H s₁ e s'
end L3
namespace L3
open PySem
section
variable{P:Program}{w:World}{A:Around}{R:Result→Shared→Prop}{s:Shared}{elt tg iter c:Expr}{scope:Scope}{pos:Pos}{it acc:Value}{env:Env}
abbrev noE:Value→Shared→Prop:=fun _ _=>False
theorem comp_loop0(I:Nat→Shared→Prop)
  (turn:∀n s,I n s→wpAny (model P w) A (pyNext it) (fun r s1=>match r with
   | none=>R (.ok .next) s1
   | some v=>wpAny (model P w) A (letOwnedTupleGo tg it v) (fun _ s2=>wpAny (model P w) A (assign tg env v) (fun _ s3=>wpAny (model P w) A (eval elt env) (fun x s4=>
     wpAny (model P w) A (call (.builtin "list.append") [acc,x]) (fun _ s5=>∃m,m<n∧I m s5) noE s4) noE s3) noE s2) noE s1) noE s)
  (n:Nat) (h:I n s):codeAny (model P w) A (.compLoop (.ListComp elt [⟨tg,iter,[],0⟩] scope pos) 0 it acc env) R s:=by
 refine codeAny_loop rfl I (fun m z hI=>?_) n h
 show wpAny _ A ((compTurn (.ListComp elt [⟨tg,iter,[],0⟩] scope pos) 0 it acc env).onRaise fun x=>do noteFrame x env;theTreesLotGoes x) _ _ z
 refine wpAny_noted ?_
 rw[compTurn_list1]
 refine wpAny_bind (wpAny_standAt (wpAny_bind (wpAny_mono (turn m z hI) (fun r s1 h1=>?_) fun _ _ f=>f.elim)))
 cases r with
 | none=>exact wpAny_pure h1
 | some v=>
  refine wpAny_bind (wpAny_mono h1 (fun _ s2 h2=>?_) fun _ _ f=>f.elim)
  refine wpAny_bind (wpAny_mono h2 (fun _ s3 h3=>?_) fun _ _ f=>f.elim)
  refine wpAny_bind (wpAny_bind (wpAny_mono h3 (fun x s4 h4=>?_) fun _ _ f=>f.elim))
  exact wpAny_bind (wpAny_mono h4 (fun _ s5 h5=>wpAny_pure (wpAny_pure ⟨rfl,h5⟩)) fun _ _ f=>f.elim)
theorem comp_loop1(I:Nat→Shared→Prop)
  (turn:∀n s,I n s→wpAny (model P w) A (pyNext it) (fun r s1=>match r with
   | none=>R (.ok .next) s1
   | some v=>wpAny (model P w) A (letOwnedTupleGo tg it v) (fun _ s2=>wpAny (model P w) A (assign tg env v) (fun _ s3=>wpAny (model P w) A (isTrue c env (eval c env)) (fun ok s4=>
     if ok=true then wpAny (model P w) A (eval elt env) (fun x s5=>wpAny (model P w) A (call (.builtin "list.append") [acc,x]) (fun _ s6=>∃m,m<n∧I m s6) noE s5) noE s4
     else ∃m,m<n∧I m s4) noE s3) noE s2) noE s1) noE s)
  (n:Nat) (h:I n s):codeAny (model P w) A (.compLoop (.ListComp elt [⟨tg,iter,[c],0⟩] scope pos) 0 it acc env) R s:=by
 refine codeAny_loop rfl I (fun m z hI=>?_) n h
 show wpAny _ A ((compTurn (.ListComp elt [⟨tg,iter,[c],0⟩] scope pos) 0 it acc env).onRaise fun x=>do noteFrame x env;theTreesLotGoes x) _ _ z
 refine wpAny_noted ?_
 rw[compTurn_list]
 refine wpAny_bind (wpAny_standAt (wpAny_bind (wpAny_mono (turn m z hI) (fun r s1 h1=>?_) fun _ _ f=>f.elim)))
 cases r with
 | none=>exact wpAny_pure h1
 | some v=>
  refine wpAny_bind (wpAny_mono h1 (fun _ s2 h2=>?_) fun _ _ f=>f.elim)
  refine wpAny_bind (wpAny_mono h2 (fun _ s3 h3=>?_) fun _ _ f=>f.elim)
  refine wpAny_bind (wpAny_tests_one (wpAny_mono h3 (fun ok s4 h4=>?_) fun _ _ f=>f.elim))
  cases ok with
  | false=>exact wpAny_pure ⟨rfl,h4⟩
  | true=>
   refine wpAny_bind (wpAny_bind (wpAny_mono h4 (fun x s5 h5=>?_) fun _ _ f=>f.elim))
   exact wpAny_bind (wpAny_mono h5 (fun _ s6 h6=>wpAny_pure (wpAny_pure ⟨rfl,h6⟩)) fun _ _ f=>f.elim)
end
theorem closure_go{env:Env}:∀(names:List (Str×NameKind)) (acc:List (Str×Addr)),(∀n,(n,NameKind.free)∈names→∃c,env.cells.lookup n=some c)→
  (∀x c,acc.lookup x=some c→env.cells.lookup x=some c)→
  ∃cl,(forIn names acc fun(x:Str×NameKind) (cs:List (Str×Addr))=>match x with
   |(name,kind)=>if (kind==NameKind.free)=true then do let c ←cellOf env name;pure (ForInStep.yield ((name,c)::cs)) else pure (ForInStep.yield cs):Sem (List (Str×Addr)))=pure cl∧
   (∀x c,cl.lookup x=some c→env.cells.lookup x=some c)∧(∀n,(n,NameKind.free)∈names→∃c,cl.lookup n=some c)∧∀x c,acc.lookup x=some c→∃c',cl.lookup x=some c'
 | [],acc,_,ha=>⟨acc,rfl,ha,(fun _ h=>nomatch h),fun x c e=>⟨c,e⟩⟩
 |(n,k)::r,acc,hn,ha=>by
  by_cases hk:k= .free
  ·subst hk
   obtain⟨c,hc⟩:=hn n List.mem_cons_self
   obtain⟨cl,e,h1,h2,h3⟩:=closure_go r ((n,c)::acc) (fun m hm=>hn m (List.mem_cons_of_mem _ hm)) (fun x d hx=>by
    rw[List.lookup_cons] at hx
    cases q:x==n with
    | true=>rw[q] at hx;cases hx;rw[eq_of_beq q];exact hc
    | false=>rw[q] at hx;exact ha x d hx)
   refine⟨cl,?_,h1,fun m hm=>?_,fun x d hx=>?_⟩
   ·rw[List.forIn_cons]
    show(bind (bind (cellOf env n) _) _:Sem _)=_
    unfold cellOf
    rw[hc]
    exact e
   ·rcases List.mem_cons.mp hm with q | q
    ·cases q;exact h3 n c (by simp[List.lookup_cons])
    ·exact h2 m q
   ·cases q:x==n with
    | true=>exact h3 x c (by rw[List.lookup_cons,q])
    | false=>exact h3 x d (by rw[List.lookup_cons,q];exact hx)
  ·have hb:(k==NameKind.free)=false:=by simpa using hk
   obtain⟨cl,e,h1,h2,h3⟩:=closure_go r acc (fun m hm=>hn m (List.mem_cons_of_mem _ hm)) ha
   refine⟨cl,?_,h1,fun m hm=>?_,h3⟩
   ·rw[List.forIn_cons]
    show(bind (if (k==NameKind.free)=true then _ else _) _:Sem _)=_
    rw[hb]
    exact e
   ·rcases List.mem_cons.mp hm with q | q
    ·cases q;exact absurd rfl hk
    ·exact h2 m q
theorem closure_of{env:Env}{scope:Scope}(hn:∀n,(n,NameKind.free)∈scope.names→∃c,env.cells.lookup n=some c):
  ∃cl,closureFor scope env=pure cl∧(∀x c,cl.lookup x=some c→env.cells.lookup x=some c)∧∀n,(n,NameKind.free)∈scope.names→∃c,cl.lookup n=some c:=by
 obtain⟨cl,e,h1,h2,_⟩:=closure_go scope.names [] hn (fun x c h=>by cases h)
 refine⟨cl,?_,h1,h2⟩
 exact(congrArg (fun t:Sem (List (Str×Addr))=>bind t fun z=>pure z) e).trans rfl
end L3
namespace L3
open PySem PySem.Spec PyProof.Rows L2
def cxC(X:Cx)(N':List Str)(scope:Scope)(cl:List (Str×Addr))(C:Addr)(fp:List Addr)(pins:List (Addr×Obj))(s:Shared)(H:Hp):Cx where
 prog:=X.prog
 w:=X.w
 K:=X.K
 mg:=X.mg
 base:=X.base
 A:=X.A
 N:=N'
 s₀:=s
 H₀:=H
 env:=compEnvC scope cl C X.env
 outer:=X.stack
 stack:=X.stack
 ex:=fp
 fn:=fun x=>scope.names.any fun y=>y.1==x&&y.2== .cell
 calm:=X.calm
 pn:=X.pn++pins
 xe:=noE
def relabS(scope dsc:Scope):Scope:=
 {scope with names:=scope.names.map fun(n,k)=>if (k== .free&&dsc.kind== .function&&dsc.names.lookup n==some .cell) then(n,.cell) else(n,k)}
def capSt(js:List (Option Nat))(σ:L2.St):L2.St:=js.map fun o=>o.bind fun j=>(σ[j]?).join
structure CompScope(dsc:Scope)(dN N':List Str)(js:List (Option Nat))(scope:Scope):Prop where
 kind:scope.kind= .function
 nd:(scope.names.map (·.1)).Nodup
 loc:∀y∈scope.names,y.2= .local→scope.names.lookup y.1=some .local
 len:js.length=N'.length
 cap:∀(i:Nat) (x:Str) (j:Nat),N'[i]?=some x→js[i]?=some (some j)→dN[j]?=some x∧(x,NameKind.free)∈scope.names
 free:∀n,(n,NameKind.free)∈scope.names→dsc.names.lookup n=some .cell∨dsc.names.lookup n=some .free
 seen:∀n,(n,NameKind.free)∈scope.names→(relabS scope dsc).names.lookup n=some .cell∨(relabS scope dsc).names.lookup n=some .free
def compOk(dsc:Scope)(dN N':List Str)(js:List (Option Nat))(scope:Scope):Bool:=
 scope.kind== .function&&decide ((scope.names.map (·.1)).Nodup)&&scope.names.all (fun y=>y.2 != .local || scope.names.lookup y.1==some .local)&&js.length==N'.length&&
 (N'.zip js).all (fun p=>match p.2 with | some j=>dN[j]?==some p.1&&scope.names.contains (p.1,NameKind.free) | none=>true)&&
 scope.names.all (fun y=>y.2 != .free || ((dsc.names.lookup y.1==some .cell || dsc.names.lookup y.1==some .free)&&((relabS scope dsc).names.lookup y.1==some .cell || (relabS scope dsc).names.lookup y.1==some .free)))
theorem CompScope.of{dsc:Scope}{dN N':List Str}{js:List (Option Nat)}{scope:Scope}(h:compOk dsc dN N' js scope=true):CompScope dsc dN N' js scope:=by
 unfold compOk at h
 simp only[Bool.and_eq_true,List.all_eq_true,beq_iff_eq,bne_iff_ne,Bool.or_eq_true,decide_eq_true_eq] at h
 obtain⟨⟨⟨⟨⟨h1,h2⟩,h3⟩,h4⟩,h5⟩,h6⟩:=h
 refine⟨h1,h2,fun y hy hl=>(h3 y hy).resolve_left fun z=>z hl,h4,fun i x j e1 e2=>?_,fun n hn=>?_,fun n hn=>?_⟩
 ·have hm:(x,some j)∈N'.zip js:=List.mem_of_getElem? (i:=i) (by rw[List.getElem?_zip_eq_some];exact⟨e1,e2⟩)
  have q:=h5 _ hm
  simp only[Bool.and_eq_true,beq_iff_eq,List.contains_iff_mem] at q
  exact q
 ·exact((h6 _ hn).resolve_left fun z=>z rfl).1
 ·exact((h6 _ hn).resolve_left fun z=>z rfl).2
theorem relabel_mem{env:Env}{x:Str}{k:NameKind}:∀{names:List (Str×NameKind)},
  (names.map fun(n,k)=>if (k==NameKind.free&&env.scope.kind== .function&&env.kindOf n==some .cell) then(n,NameKind.cell) else(n,k)).lookup x=some k→(k= .cell∨k= .free)→(x,NameKind.free)∈names∨(x,NameKind.cell)∈names
 | [],h,_=>by simp at h
 |(n,q)::r,h,hk=>by
  rw[List.map_cons] at h
  by_cases hx:x=n
  ·subst hx
   have hq:q= .free∨q= .cell:=by
    by_cases c:(q==NameKind.free&&env.scope.kind== .function&&env.kindOf x==some .cell)=true
    ·rw[Bool.and_eq_true,Bool.and_eq_true] at c
     exact .inl (eq_of_beq c.1.1)
    ·simp only[if_neg c] at h
     rw[List.lookup_cons,beq_self_eq_true] at h
     have e:q=k:=Option.some.inj h
     rcases hk with z | z
     ·exact .inr (e.trans z)
     ·exact .inl (e.trans z)
   rcases hq with rfl | rfl
   ·exact .inl List.mem_cons_self
   ·exact .inr List.mem_cons_self
  ·have hb:(x==n)=false:=by simpa using hx
   have rest:(r.map fun(n,k)=>if (k==NameKind.free&&env.scope.kind== .function&&env.kindOf n==some .cell) then(n,NameKind.cell) else(n,k)).lookup x=some k:=by
    by_cases c:(q==NameKind.free&&env.scope.kind== .function&&env.kindOf n==some .cell)=true
    ·simp only[if_pos c] at h
     rw[List.lookup_cons,hb] at h
     exact h
    ·simp only[if_neg c] at h
     rw[List.lookup_cons,hb] at h
     exact h
   exact(relabel_mem (env:=env) rest hk).imp (List.mem_cons_of_mem _) (List.mem_cons_of_mem _)
structure BlockCells(X:Cx)(scope:Scope)(cl:List (Str×Addr))(sz:Nat)(h1:Heap):Prop where
 each:∀x c,cl.lookup x=some c→X.env.cells.lookup x=some c∨(sz<c∧h1.IsCell c none)
 free:∀n,(n,NameKind.free)∈scope.names→∃c,cl.lookup n=some c∧X.env.cells.lookup n=some c
 own:∀n,(n,NameKind.cell)∈scope.names→∃c,cl.lookup n=some c∧sz<c
 inj:∀x y c,cl.lookup x=some c→cl.lookup y=some c→sz<c→x=y
theorem cells_old{x:Str}:∀(names:List (Str×NameKind)) (n:Nat) (acc:List (Str×Addr)),(x,NameKind.cell)∉names→(cellsFrom n names acc).lookup x=acc.lookup x
 | [],_,_,_=>rfl
 |(y,k)::r,n,acc,h=>by
  have hr:(x,NameKind.cell)∉r:=fun z=>h (List.mem_cons_of_mem _ z)
  unfold cellsFrom
  split
  ·rename_i hk
   have hxy:(x==y)=false:=by
    rw[beq_eq_false_iff_ne]
    intro e
    apply h
    rw[e,←eq_of_beq hk]
    exact List.mem_cons_self
   rw[cells_old r _ _ hr,List.lookup_cons,hxy]
  ·exact cells_old r n acc hr
theorem cells_own{x:Str}:∀(names:List (Str×NameKind)) (n:Nat) (acc:List (Str×Addr)),(x,NameKind.cell)∈names→∃c,(cellsFrom n names acc).lookup x=some c∧n≤c
 | [],_,_,h=>by cases h
 |(y,k)::r,n,acc,h=>by
  unfold cellsFrom
  by_cases hr:(x,NameKind.cell)∈r
  ·split
   ·obtain⟨c,e,l⟩:=cells_own r (n+1) ((y,n)::acc) hr
    exact⟨c,e,by omega⟩
   ·exact cells_own r n acc hr
  ·rcases List.mem_cons.mp h with e | e
   ·cases e
    rw[if_pos (by rfl),cells_old r _ _ hr,List.lookup_cons,beq_self_eq_true]
    exact⟨n,rfl,Nat.le_refl _⟩
   ·exact absurd e hr
theorem cells_split:∀(names:List (Str×NameKind)) (n:Nat) (acc cl:List (Str×Addr)),∃own,cellsFrom n names (acc++cl)=own++cl∧cellsFrom n names acc=own
 | [],n,acc,cl=>⟨acc,rfl,rfl⟩
 |(y,k)::r,n,acc,cl=>by
  unfold cellsFrom
  split
  ·exact cells_split r (n+1) ((y,n)::acc) cl
  ·exact cells_split r n acc cl
theorem lookup_app{x:Str}{c:Addr}:∀{a b:List (Str×Addr)},(a++b).lookup x=some c→a.lookup x=some c∨b.lookup x=some c
 | [],b,h=> .inr h
 |(y,d)::a,b,h=>by
  rw[List.cons_append,List.lookup_cons] at h
  rw[List.lookup_cons]
  cases e:x==y with
  | true=>rw[e] at h;exact .inl h
  | false=>rw[e] at h;exact lookup_app h
theorem blockCells{X:Cx}{pins:List (Addr×Obj)}{σ:L2.St}{H:Hp}{s:Shared}{scope:Scope}{cl:List (Str×Addr)}(nd:(scope.names.map (·.1)).Nodup)(I:Inv X pins σ H s)(o:Obj)
  (c1:∀x c,cl.lookup x=some c→X.env.cells.lookup x=some c) (c2:∀n,(n,NameKind.free)∈scope.names→∃c,cl.lookup n=some c):
  BlockCells X scope (cellsFrom (s.heap.objs.size+1) scope.names cl) s.heap.objs.size (pushCells (s.heap.push o) scope.names):=by
 obtain⟨own,e1,e2⟩:=cells_split scope.names (s.heap.objs.size+1) [] cl
 rw[List.nil_append] at e1
 have ok:=cellsFrom_ok scope.names (s.heap.push o) (s.heap.objs.size+1) [] ⟨fun _ _ hm=>(nomatch hm),List.Pairwise.nil⟩ (by rw[Heap.size_push];exact Nat.le_refl _)
 rw[Heap.size_push,e2] at ok
 have old:∀x c,cl.lookup x=some c→c<s.heap.objs.size:=by
  intro x c e
  obtain⟨v,q⟩:=I.cell x c (c1 x c e)
  exact q.lt
 have one:∀{n:Str},(n,NameKind.free)∈scope.names→(n,NameKind.cell)∉scope.names:=by
  intro n h1 h2
  have key:∀(l:List (Str×NameKind)),(l.map (·.1)).Nodup→(n,NameKind.free)∈l→(n,NameKind.cell)∈l→False:=by
   intro l
   induction l with
   | nil=>intro _ h;cases h
   | cons y r ih=>
    intro hn a b
    rw[List.map_cons,List.nodup_cons] at hn
    rcases List.mem_cons.mp a with e1 | a2
    ·rcases List.mem_cons.mp b with e2 | b2
     ·rw[←e1] at e2;cases e2
     ·exact hn.1 (List.mem_map.mpr ⟨_,b2,by rw[←e1]⟩)
    ·rcases List.mem_cons.mp b with e2 | b2
     ·exact hn.1 (List.mem_map.mpr ⟨_,a2,by rw[←e2]⟩)
     ·exact ih hn.2 a2 b2
  exact key _ nd h1 h2
 refine⟨fun x c e=>?_,fun n hn=>?_,fun n hn=>?_,fun x y c hx hy hc=>?_⟩
 ·rw[e1] at e
  rcases lookup_app e with z | z
  ·obtain⟨a,b⟩:=ok.empty x c (mem_of_lookup z)
   exact .inr ⟨b,a⟩
  ·exact .inl (c1 x c z)
 ·obtain⟨c,hc⟩:=c2 n hn
  refine⟨c,?_,c1 n c hc⟩
  rw[cells_old _ _ _ (one hn)]
  exact hc
 ·obtain⟨c,a,b⟩:=cells_own scope.names (s.heap.objs.size+1) cl hn
  exact⟨c,a,b⟩
 ·rw[e1] at hx hy
  rcases lookup_app hx with z | z
  ·rcases lookup_app hy with z2 | z2
   ·exact name_of_addr ok.apart (mem_of_lookup z) (mem_of_lookup z2)
   ·exact absurd (old y c z2) (Nat.lt_asymm hc)
  ·exact absurd (old x c z) (Nat.lt_asymm hc)
theorem wp_newEnvC{M:Model}{A:Around}{E:Value→Shared→Prop}{s:Shared}{scope:Scope}{globals:Addr}{cl:List (Str×Addr)}{qual:Str}{o:Env}{Q:Env→Shared→Prop}
  (hQ:Q {scope:=scope,locals:=s.heap.objs.size,globals:=globals,cells:=cellsFrom (s.heap.objs.size+1) scope.names cl,qual:=qual,func:=none,code:=o.code,frame:=o.frame,builtins:=o.builtins} {s with heap:=pushCells (s.heap.push {cls:= .type "dict",data:= .dict #[]}) scope.names}):
  wpAny M A (newFunctionEnv scope globals cl [] qual none .none (some o)) Q E s:=by
 simp only[newFunctionEnv,Option.isSome_some,if_true]
 refine wpAny_bind (wpAny_alloc ?_)
 refine wpAny_bind (wpAny_layCells _ (fun name kind cells=>by cases hkc:kind==NameKind.cell<;>simp[hkc]) _ _ _ _ ?_)
 rw[show({s with heap:=s.heap.push {cls:= .type "dict",data:= .dict #[]}}:Shared).heap.objs.size=s.heap.objs.size+1 from Heap.size_push ..]
 rw[List.forIn_nil]
 exact wpAny_bind (wpAny_pure (wpAny_pure hQ))
section
variable{X:Cx}{elt tg iter c:Expr}{scope:Scope}{pos:Pos}{N':List Str}{js:List (Option Nat)}{wi:TI}{g:TG}{te:TE}{tc:TT}
theorem comp_start{N':List Str}{js:List (Option Nat)}{pins:List (Addr×Obj)}{σ:L2.St}{H:Hp}{s:Shared}{cl:List (Str×Addr)}{fp:List Addr}{h1:Heap}{tk:Nat}(S:CompScope X.env.scope X.N N' js scope)(I:Inv X pins σ H s)
  (bc:BlockCells X scope cl s.heap.objs.size h1) (hf:∀b∈fp,FpOk X pins H b) (hlt:∀b∈fp,b<s.heap.objs.size)
  {m:Str→Option Value} (hn:h1.Ns s.heap.objs.size m) (hk:∀b o,s.heap.get? b=some o→h1.get? b=some o):
  Inv (cxC X N' scope cl s.heap.objs.size fp pins s H) [] (capSt js σ) H {s with heap:=h1,toks:=tk}:=by
 have ok:(cxC X N' scope cl s.heap.objs.size fp pins s H).Ok:=by
  refine⟨I.ok.mod,S.kind,I.ok.glob,I.ok.blt,Nat.le_refl _,fun x y c h1 h2=>?_,fun x hx=>?_,fun x c hx e=>?_,I.ok.hd,I.ok.frames,.inl rfl,fun b hb=>⟨Nat.ne_of_lt (hlt b hb),fun x c e=>?_⟩,
   I.bs,Nat.le_trans I.ok.bsz I.sz,fun b o e hb=>?_,fun b hb hx=>?_,I.stack,I.stkFree⟩
  ·rcases bc.each x c h1 with z | z
   ·rcases bc.each y c h2 with z2 | z2
    ·exact I.ok.inj x y c z z2
    ·exact bc.inj x y c h1 h2 z2.1
   ·exact bc.inj x y c h1 h2 z.1
  ·have hx':(relabel scope X.env).names.lookup x=some .cell∨(relabel scope X.env).names.lookup x=some .free:=hx
   have hm:(x,NameKind.free)∈scope.names∨(x,NameKind.cell)∈scope.names:=by
    rcases hx' with z | z
    ·exact relabel_mem z (.inl rfl)
    ·exact relabel_mem z (.inr rfl)
   rcases hm with z | z
   ·obtain⟨c,e,_⟩:=bc.free x z;exact⟨c,e⟩
   ·obtain⟨c,e,_⟩:=bc.own x z;exact⟨c,e⟩
  ·have hx':(scope.names.any fun y=>y.1==x&&y.2==NameKind.cell)=true:=hx
   rw[List.any_eq_true] at hx'
   obtain⟨⟨y,k⟩,hm,hy⟩:=hx'
   rw[Bool.and_eq_true] at hy
   have e1:y=x:=eq_of_beq hy.1
   have e2:k= .cell:=eq_of_beq hy.2
   subst e1 e2
   obtain⟨c',e',l⟩:=bc.own _ hm
   have:c'=c:=Option.some.inj (e'.symm.trans e)
   subst this
   exact Nat.le_of_lt l
  ·rcases bc.each x c e with z | z
   ·exact(hf b hb).2.2.2.2.1 x c z
   ·exact fun q=>absurd z.1 (Nat.lt_asymm (by rw[q];exact hlt b hb))
  ·obtain⟨_,_,_,f3,_⟩:=hf b hb
   rcases f3 with z | z
   ·exact I.ok.noex b o e z
   ·exact absurd (Nat.lt_of_lt_of_le (Heap.lt_size e) (Nat.le_trans I.ok.bsz z)) (Nat.lt_irrefl _)
  ·obtain⟨_,f1,f2,_⟩:=hf b hb
   rcases List.mem_cons.mp (I.stkSub b hx) with z | z
   ·exact f1 z
   ·exact f2 z
 refine⟨ok,rfl,I.bare,Un.kept hk,⟨m,hn,fun i x v e1 e2 e3=>?_⟩,fun x c e=>?_,I.hok.fresh (Nat.le_refl _),fun x c e=>(bc.each x c e).elim (fun z=>I.freeC x c z) (fun z=>I.hok.fresh (Nat.le_of_lt z.1)),fun p hp=>?_,I.hok.kept hk,?_⟩
 ·have e2':(capSt js σ)[i]?=some (some v):=e2
  unfold capSt at e2'
  rw[List.getElem?_map] at e2'
  cases q:js[i]? with
  | none=>rw[q] at e2';cases e2'
  | some o=>
   rw[q] at e2'
   cases o with
   | none=>cases e2'
   | some j=>
    have e4:(σ[j]?).join=some v:=Option.some.inj e2'
    obtain⟨hN,hm⟩:=S.cap i x j e1 q
    have hσ:σ[j]?=some (some v):=by
     cases z:σ[j]? with
     | none=>rw[z] at e4;cases e4
     | some o=>rw[z] at e4;exact congrArg some e4
    obtain⟨m0,hn0,hl⟩:=I.loc
    obtain⟨c,hc,hc0⟩:=bc.free x hm
    have hv:Vis X.env.scope x:=(S.free x hm).elim (fun z=> .inr (.inl z)) fun z=> .inr (.inr z)
    obtain⟨u,r,l⟩:=hl j x v hN hσ hv
    refine⟨u,r,.inr ⟨?_,c,hc,?_⟩⟩
    ·exact S.seen x hm
    ·rcases l with⟨kl,_⟩ | ⟨_,c',hc',cell⟩
     ·rcases S.free x hm with y | y<;>(have z:=y.symm.trans (show X.env.scope.names.lookup x=some .local from kl);cases z)
     ·rw[hc0] at hc'
      cases hc'
      obtain⟨o,ho,hd⟩:=cell
      exact⟨o,hk _ _ ho,hd⟩
 ·rcases bc.each x c e with z | z
  ·obtain⟨v,o,ho,hd⟩:=I.cell x c z
   exact⟨v,o,hk _ _ ho,hd⟩
  ·exact⟨none,z.2⟩
 ·have hp':p∈X.pn++pins:=(List.mem_append.mp hp).elim (fun z=>z) fun z=>absurd z (by simp)
  obtain⟨e,n,ne,nf,d⟩:=I.pin p hp'
  refine⟨hk _ _ e,n,Nat.ne_of_lt (Heap.lt_size e),fun z=>?_,d⟩
  rcases List.mem_cons.mp (I.stkSub p.1 z) with y | y
  ·exact ne y
  ·exact nf y
 ·show(capSt js σ).length=N'.length
  unfold capSt
  rw[List.length_map];exact S.len
end
section
variable{X:Cx}{elt tg iter c:Expr}{scope:Scope}{pos:Pos}{N':List Str}{js:List (Option Nat)}{wi:TI}{g:TG}{te:TE}{tc:TT}
def tComp0(js:List (Option Nat))(wi:TI)(g:TG)(te:TE):TE:=fun σ H Q=>wi σ H fun J H1=>∀D,H1 D=none→∃W:Nat→Nat→L2.St→Hp→Prop,(∃m,W 0 m (capSt js σ) (upd H1 D (.lst [])))∧
 ∀i m σc Hc,W i m σc Hc→(J.stop i Hc∧Q (.ref D) Hc)∨(J.go i Hc∧∀x H',J.yld i Hc x H'→g x σc H' fun σ2 H2=>te σ2 H2 fun y H4=>∃acc,H4 D=some (.lst acc)∧acc.length<sizeLine∧
  ∃m',m'<m∧W (i+1) m' σ2 (upd H4 D (.lst (acc++[y]))))
def tComp1(js:List (Option Nat))(wi:TI)(g:TG)(tc:TT)(te:TE):TE:=fun σ H Q=>wi σ H fun J H1=>∀D,H1 D=none→∃W:Nat→Nat→L2.St→Hp→Prop,(∃m,W 0 m (capSt js σ) (upd H1 D (.lst [])))∧
 ∀i m σc Hc,W i m σc Hc→(J.stop i Hc∧Q (.ref D) Hc)∨(J.go i Hc∧∀x H',J.yld i Hc x H'→g x σc H' fun σ2 H2=>tc σ2 H2 fun b H3=>if b=true then te σ2 H3 fun y H4=>∃acc,H4 D=some (.lst acc)∧acc.length<sizeLine∧
  ∃m',m'<m∧W (i+1) m' σ2 (upd H4 D (.lst (acc++[y]))) else ∃m',m'<m∧W (i+1) m' σ2 H3)
theorem comp_block0{pins:List (Addr×Obj)}{σ:L2.St}{H2:Hp}{s2:Shared}{cl:List (Str×Addr)}{it:Addr}{fp:List Addr}{tn:Nat→Heap→Prop}{J:It}{QD:Addr→Hp→Prop}{R:Value→Addr→Result→Shared→Prop}{E:Value→Shared→Prop}
  (hc:X.calm=true) (S:CompScope X.env.scope X.N N' js scope) (c1:∀x c,cl.lookup x=some c→X.env.cells.lookup x=some c) (c2:∀n,(n,NameKind.free)∈scope.names→∃c,cl.lookup n=some c)
  (hg:∀cl C fp pins s H,PG (cxC X N' scope cl C fp pins s H) tg g) (he:∀cl C fp pins s H,PE (cxC X N' scope cl C fp pins s H) elt te)
  (I2:Inv X pins σ H2 s2) (T:Turn X.prog X.w X.K tg J fp it tn) (st2:tn 0 s2.heap) (f2:∀b∈fp,FpOk X pins H2 b)
  (q:∀D,H2 D=none→∃W:Nat→Nat→L2.St→Hp→Prop,(∃m,W 0 m (capSt js σ) (upd H2 D (.lst [])))∧
   ∀i m σc Hc,W i m σc Hc→(J.stop i Hc∧QD D Hc)∨(J.go i Hc∧∀x H',J.yld i Hc x H'→g x σc H' fun σ2 H2=>te σ2 H2 fun y H4=>∃acc,H4 D=some (.lst acc)∧acc.length<sizeLine∧
    ∃m',m'<m∧W (i+1) m' σ2 (upd H4 D (.lst (acc++[y])))))
  (back:∀(D C:Addr) (Hc:Hp) (s4:Shared),(∃m,s4.heap.Ns C m)→Inv X pins σ Hc s4→Hc C=none→C≠X.env.locals→X.s₀.heap.objs.size≤C→(∀x c,X.env.cells.lookup x=some c→c≠C)→(∀p∈X.pn++pins,p.1≠C)→QD D Hc→R (.ref D) C (.ok .next) s4):
  wpAny (model X.prog X.w) X.A (newList []) (fun acc s3=>wpAny (model X.prog X.w) X.A (newFunctionEnv scope X.env.globals cl [] X.env.qual none .none (some X.env)) (fun cenv s4=>
   codeAny (model X.prog X.w) X.A (.compStart (.ListComp elt [⟨tg,iter,[],0⟩] scope pos) 0 (.ref it) acc {cenv with scope:=relabel scope X.env}) (R acc cenv.locals) s4) E s3) E s2:=by
 refine wpAny_newObj_type (wp_newEnvC ?_)
 dsimp only
 have I3:Inv X pins σ (upd H2 s2.heap.objs.size (.lst [])) {s2 with heap:=s2.heap.push {cls:= .type "list",data:= .seq ([]:List Value).toArray}}:=I2.lnew (its:=[]) (t':=s2.toks) .nil (Nat.zero_le _)
 obtain⟨W,⟨m0,w0⟩,turn⟩:=q s2.heap.objs.size I2.fresh
 have hob:=T.obj 0 _ st2
 have f3:∀b∈fp,FpOk X pins (upd H2 s2.heap.objs.size (.lst [])) b:=fun b hb=>by
  obtain⟨o,e,_⟩:=hob b hb
  exact⟨by rw[upd_ne (Nat.ne_of_lt (Heap.lt_size e))];exact(f2 b hb).1,(f2 b hb).2⟩
 generalize hS3:(s2.heap.push {cls:= .type "list",data:= .seq ([]:List Value).toArray}:Heap)=h3 at *
 have k23:∀b o,s2.heap.get? b=some o→h3.get? b=some o:=fun b o e=>by rw[←hS3];exact Heap.get?_push_of_some _ e
 have hlt:∀b∈fp,b<h3.objs.size:=fun b hb=>by
  obtain⟨o,e,_⟩:=hob b hb
  exact Heap.lt_size (k23 b o e)
 have bc:=blockCells S.nd I3 {cls:= .type "dict",data:= .dict #[]} c1 c2
 have hns:(pushCells (h3.push {cls:= .type "dict",data:= .dict #[]}) scope.names).Ns h3.objs.size (fun _=>none):=(Heap.Ns.new h3 (.type "dict")).keeps (pushCells_keeps _ _)
 have k31:∀b o,h3.get? b=some o→(pushCells (h3.push {cls:= .type "dict",data:= .dict #[]}) scope.names).get? b=some o:=fun b o e=>pushCells_keeps _ _ b o (Heap.get?_push_of_some _ e)
 dsimp only at bc
 generalize cellsFrom (h3.objs.size+1) scope.names cl=cl' at bc ⊢
 generalize pushCells (h3.push {cls:= .type "dict",data:= .dict #[]}) scope.names=h1 at bc hns k31 ⊢
 have I4:=comp_start (tk:=s2.toks) S I3 bc f3 hlt hns k31
 have st4:tn 0 h1:=T.keep 0 _ h1 st2 fun b hb o e=>k31 b o (k23 b o e)
 have nofs:∀b∈fp,b∉(cxC X N' scope cl' h3.objs.size fp pins {s2 with heap:=h3} (upd H2 s2.heap.objs.size (.lst []))).fs:=I4.ok.exfs
 have stat:∀{H':Hp},(∀b∈fp,H' b=none)→∀b∈fp,FpOk (cxC X N' scope cl' h3.objs.size fp pins {s2 with heap:=h3} (upd H2 s2.heap.objs.size (.lst []))) [] H' b:=fun{H'} hn b hb=>
  ⟨hn b hb,Nat.ne_of_lt (hlt b hb),nofs b hb,.inl hb,fun x c e=>(bc.each x c e).elim (fun z=>(f3 b hb).2.2.2.2.1 x c z) (fun z q=>absurd z.1 (Nat.lt_asymm (by rw[q];exact hlt b hb))),fun p hp=>(f3 b hb).2.2.2.2.2 p (by simpa[cxC] using hp)⟩
 have loop:codeAny (model X.prog X.w) X.A (.compLoop (.ListComp elt [⟨tg,iter,[],0⟩] scope pos) 0 (.ref it) (.ref s2.heap.objs.size) (compEnvC scope cl' h3.objs.size X.env))
   (R (.ref s2.heap.objs.size) h3.objs.size) {s2 with heap:=h1,toks:=s2.toks}:=by
  refine comp_loop0 (fun n s'=>∃i σc Hc,Inv (cxC X N' scope cl' h3.objs.size fp pins {s2 with heap:=h3} (upd H2 s2.heap.objs.size (.lst []))) [] σc Hc s'∧tn i s'.heap∧(∀b∈fp,Hc b=none)∧W i n σc Hc) ?_ m0
   ⟨0,_,_,I4,st4,fun b hb=>(f3 b hb).1,w0⟩
  rintro n z ⟨i,σc,Hc,Iz,stz,frz,wz⟩
  rcases turn i n σc Hc wz with⟨stop,qd⟩ | ⟨go,step⟩
  ·refine thn (T.done (cxC X N' scope cl' h3.objs.size fp pins {s2 with heap:=h3} (upd H2 s2.heap.objs.size (.lst []))) rfl rfl rfl hc i [] z σc Hc noE Iz (stat frz) stz stop) fun r s4 ⟨hr,I5⟩=>?_
   subst hr
   have J5:Inv X pins σ Hc s4:=I3.call' (s':=s4) I5.os I5.base I5.hok I5.bare fun b hb=>⟨(f3 b hb).2.2.2.1,(f3 b hb).2.1,(f3 b hb).2.2.2.2.1,(f3 b hb).2.2.2.2.2⟩
   obtain⟨m,hm,_⟩:=I5.loc
   refine back _ _ Hc s4 ⟨m,hm⟩ J5 I5.free (Nat.ne_of_gt I3.lt) (Nat.le_trans I3.ok.above (Nat.le_of_lt I3.lt)) (fun x c e z=>?_) (fun p hp z=>?_) qd
   ·obtain⟨v,q⟩:=I3.cell x c e
    exact absurd q.lt (by rw[z];exact Nat.lt_irrefl _)
   ·exact absurd (Heap.lt_size (I3.pin p hp).1) (by rw[z];exact Nat.lt_irrefl _)
  ·refine thn (T.item (cxC X N' scope cl' h3.objs.size fp pins {s2 with heap:=h3} (upd H2 s2.heap.objs.size (.lst []))) rfl rfl rfl hc i [] z σc Hc noE Iz (stat frz) stz go) fun r s4 ⟨u,hr,h4⟩=>?_
   subst hr
   refine thn h4 fun _ s5 ⟨x,H5,I5,r5,y5,st5,fr5⟩=>?_
   have I5':=I5.pinned (stat fr5) (T.obj _ _ st5)
   refine thn (hg _ _ _ _ _ _ _ s5 σc H5 x u _ I5' r5 (step x H5 y5)) fun _ s6 ⟨σ6,H6,I6,q6⟩=>?_
   refine thn (he _ _ _ _ _ _ _ s6 σ6 H6 _ I6 q6) fun v s7 ⟨y,H7,I7,r7,acc,hD,hlen,m',hm,w7⟩=>?_
   refine thn (mt_append _ s7 σ6 H7 (.ref s2.heap.objs.size) [y] (.ref s2.heap.objs.size) [v] (fun _ H8=>H8=upd H7 s2.heap.objs.size (.lst (acc++[y]))) I7 rfl (.cons r7 .nil) ⟨_,acc,y,rfl,rfl,hD,hlen,rfl⟩) fun _ s8 ⟨_,H8,I8,_,e8⟩=>?_
   subst e8
   refine⟨m',hm,i+1,σ6,_,I8.unpinned,T.keep _ _ _ st5 fun b hb o e=>(I8.pin (b,o) (List.mem_append_right _ (List.mem_append_right _ (mem_pinsAt hb e)))).1,fun b hb=>?_,w7⟩
   obtain⟨o,e,d⟩:=T.obj _ _ st5 b hb
   exact(I8.pin (b,o) (List.mem_append_right _ (List.mem_append_right _ (mem_pinsAt hb e)))).2.1
 exact codeAny_compStart_list loop (T.self _ 0 _ _ _ st4 loop)
theorem pe_comp0(hc:X.calm=true)(ho:compOk X.env.scope X.N N' js scope=true)(hi:PI X tg iter wi)(hg:∀cl C fp pins s H,PG (cxC X N' scope cl C fp pins s H) tg g)(he:∀cl C fp pins s H,PE (cxC X N' scope cl C fp pins s H) elt te)
  (hs:∀x,foldedSetIterable iter X.env x=pure x:=by intro _;rfl):PE X (.ListComp elt [⟨tg,iter,[],0⟩] scope pos) (tComp0 js wi g te):=by
 intro pins s σ H Q I h
 have S:=CompScope.of ho
 obtain⟨cl,hcl,c1,c2⟩:=closure_of (scope:=scope) (env:=X.env) fun n hn=>I.ok.has n (S.free n hn)
 rw[eval_ListComp]
 refine wpAny_comprehension_free (use:=none) rfl hs hcl S.kind S.loc (thn (hi pins s σ H _ I h) fun v s1 h1=>thn h1 fun itv s2 h2=>?_)
 obtain⟨it,fp,tn,J,H2,e,I2,T,st2,f2,q2⟩:=h2
 subst e
 refine comp_block0 (QD:=fun D Hc=>Q (.ref D) Hc) (R:=fun acc C=>compPost (model X.prog X.w) X.A X.xe none (EP X pins σ Q) acc C) hc S c1 c2 hg he I2 T st2 f2 q2 ?_
 intro D C Hc s4 ⟨m,hm⟩ J4 fC nL sC cC pC qd
 refine⟨m,hm,fun h' hs'=>⟨.ref D,Hc,?_,rfl,qd⟩⟩
 exact J4.turned (t':=s4.toks) (fun b o hb e=>(hs'.2 b hb).trans e) fC nL (.inr sC) cC pC
def tSetC0(i:Nat)(js:List (Option Nat))(wi:TI)(g:TG)(te:TE):TS:=fun D σ H=>tComp0 js wi g te σ H fun v H1=>D.nx (σ.set i (some v)) H1
theorem ps_comp0{i:Nat}{x:Str}{px spos:Pos}(hc:X.calm=true)(ho:compOk X.env.scope X.N N' js scope=true)(hN:X.N.Nodup)(hx:X.N[i]?=some x)(hl:X.env.scope.names.lookup x=some .local)(hi:PI X tg iter wi)
  (hg:∀cl C fp pins s H,PG (cxC X N' scope cl C fp pins s H) tg g) (he:∀cl C fp pins s H,PE (cxC X N' scope cl C fp pins s H) elt te)
  (hsw:swapsWith (.ListComp elt [⟨tg,iter,[],0⟩] scope pos) (some (.Name x px)) spos.line X.env=pure true)
  (hs:∀x,foldedSetIterable iter X.env x=pure x:=by intro _;rfl):PS X (.Assign [.Name x px] (.ListComp elt [⟨tg,iter,[],0⟩] scope pos) spos) (tSetC0 i js wi g te):=by
 intro pins s σ H D I h
 have S:=CompScope.of ho
 obtain⟨cl,hcl,c1,c2⟩:=closure_of (scope:=scope) (env:=X.env) fun n hn=>I.ok.has n (S.free n hn)
 rw[exec_Assign_Name_used _ _ _ _ hsw]
 refine wpAny_bind (wpAny_standAt (wpAny_bind ?_))
 show wpAny _ _ (do let _ ←comprehension (.ListComp elt [⟨tg,iter,[],0⟩] scope pos) scope X.env _ (newList []) false (eval iter X.env) (some (assign (.Name x px) X.env))) _ _ s
 refine wpAny_bind (wpAny_mono (wpAny_comprehension_free (use:=some (assign (.Name x px) X.env)) (Q:=fun _ s'=>SP X pins D .next s') rfl hs hcl S.kind S.loc (thn (hi pins s σ H _ I h) fun v s1 h1=>thn h1 fun itv s2 h2=>?_)) (fun _ s' hq=>wpAny_pure (wpAny_pure hq)) fun _ _ e=>e)
 obtain⟨it,fp,tn,J,H2,e,I2,T,st2,f2,q2⟩:=h2
 subst e
 refine comp_block0 (QD:=fun E' Hc=>D.nx (σ.set i (some (.ref E'))) Hc) (R:=fun acc C=>compPost (model X.prog X.w) X.A X.xe (some (assign (.Name x px) X.env)) (fun _ s'=>SP X pins D .next s') acc C) hc S c1 c2 hg he I2 T st2 f2 q2 ?_
 intro E' C Hc s4 ⟨m,hm⟩ J4 fC nL sC cC pC qd
 show wpAny _ _ (assign (.Name x px) X.env (.ref E')) _ _ s4
 refine wpAny_assign_Name (store_ok2 J4 hN hx (.inl hl) (v:= .ref E') rfl (fun s5 J5 ⟨a,sb,ha⟩=>?_) (.inr hl))
 have hCa:C≠a:=by
  rcases ha with z | z
  ·rw[z];exact nL
  ·exact(cC x a z).symm
 refine⟨m,hm.sameBut sb hCa,fun h' hs'=>⟨σ.set i (some (.ref E')),Hc,?_,qd⟩⟩
 exact J5.turned (t':=s5.toks) (fun b o hb e=>(hs'.2 b hb).trans e) fC nL (.inr sC) cC pC
theorem comp_block1{pins:List (Addr×Obj)}{σ:L2.St}{H2:Hp}{s2:Shared}{cl:List (Str×Addr)}{it:Addr}{fp:List Addr}{tn:Nat→Heap→Prop}{J:It}{QD:Addr→Hp→Prop}{R:Value→Addr→Result→Shared→Prop}{E:Value→Shared→Prop}
  (hc:X.calm=true) (S:CompScope X.env.scope X.N N' js scope) (c1:∀x c,cl.lookup x=some c→X.env.cells.lookup x=some c) (c2:∀n,(n,NameKind.free)∈scope.names→∃c,cl.lookup n=some c)
  (hg:∀cl C fp pins s H,PG (cxC X N' scope cl C fp pins s H) tg g) (hq:∀cl C fp pins s H,PT (cxC X N' scope cl C fp pins s H) c tc) (he:∀cl C fp pins s H,PE (cxC X N' scope cl C fp pins s H) elt te)
  (I2:Inv X pins σ H2 s2) (T:Turn X.prog X.w X.K tg J fp it tn) (st2:tn 0 s2.heap) (f2:∀b∈fp,FpOk X pins H2 b)
  (q:∀D,H2 D=none→∃W:Nat→Nat→L2.St→Hp→Prop,(∃m,W 0 m (capSt js σ) (upd H2 D (.lst [])))∧
   ∀i m σc Hc,W i m σc Hc→(J.stop i Hc∧QD D Hc)∨(J.go i Hc∧∀x H',J.yld i Hc x H'→g x σc H' fun σ2 H2=>tc σ2 H2 fun b H3=>if b=true then te σ2 H3 fun y H4=>∃acc,H4 D=some (.lst acc)∧acc.length<sizeLine∧
    ∃m',m'<m∧W (i+1) m' σ2 (upd H4 D (.lst (acc++[y]))) else ∃m',m'<m∧W (i+1) m' σ2 H3))
  (back:∀(D C:Addr) (Hc:Hp) (s4:Shared),(∃m,s4.heap.Ns C m)→Inv X pins σ Hc s4→Hc C=none→C≠X.env.locals→X.s₀.heap.objs.size≤C→(∀x c,X.env.cells.lookup x=some c→c≠C)→(∀p∈X.pn++pins,p.1≠C)→QD D Hc→R (.ref D) C (.ok .next) s4):
  wpAny (model X.prog X.w) X.A (newList []) (fun acc s3=>wpAny (model X.prog X.w) X.A (newFunctionEnv scope X.env.globals cl [] X.env.qual none .none (some X.env)) (fun cenv s4=>
   codeAny (model X.prog X.w) X.A (.compStart (.ListComp elt [⟨tg,iter,[c],0⟩] scope pos) 0 (.ref it) acc {cenv with scope:=relabel scope X.env}) (R acc cenv.locals) s4) E s3) E s2:=by
 refine wpAny_newObj_type (wp_newEnvC ?_)
 dsimp only
 have I3:Inv X pins σ (upd H2 s2.heap.objs.size (.lst [])) {s2 with heap:=s2.heap.push {cls:= .type "list",data:= .seq ([]:List Value).toArray}}:=I2.lnew (its:=[]) (t':=s2.toks) .nil (Nat.zero_le _)
 obtain⟨W,⟨m0,w0⟩,turn⟩:=q s2.heap.objs.size I2.fresh
 have hob:=T.obj 0 _ st2
 have f3:∀b∈fp,FpOk X pins (upd H2 s2.heap.objs.size (.lst [])) b:=fun b hb=>by
  obtain⟨o,e,_⟩:=hob b hb
  exact⟨by rw[upd_ne (Nat.ne_of_lt (Heap.lt_size e))];exact(f2 b hb).1,(f2 b hb).2⟩
 generalize hS3:(s2.heap.push {cls:= .type "list",data:= .seq ([]:List Value).toArray}:Heap)=h3 at *
 have k23:∀b o,s2.heap.get? b=some o→h3.get? b=some o:=fun b o e=>by rw[←hS3];exact Heap.get?_push_of_some _ e
 have hlt:∀b∈fp,b<h3.objs.size:=fun b hb=>by
  obtain⟨o,e,_⟩:=hob b hb
  exact Heap.lt_size (k23 b o e)
 have bc:=blockCells S.nd I3 {cls:= .type "dict",data:= .dict #[]} c1 c2
 have hns:(pushCells (h3.push {cls:= .type "dict",data:= .dict #[]}) scope.names).Ns h3.objs.size (fun _=>none):=(Heap.Ns.new h3 (.type "dict")).keeps (pushCells_keeps _ _)
 have k31:∀b o,h3.get? b=some o→(pushCells (h3.push {cls:= .type "dict",data:= .dict #[]}) scope.names).get? b=some o:=fun b o e=>pushCells_keeps _ _ b o (Heap.get?_push_of_some _ e)
 dsimp only at bc
 generalize cellsFrom (h3.objs.size+1) scope.names cl=cl' at bc ⊢
 generalize pushCells (h3.push {cls:= .type "dict",data:= .dict #[]}) scope.names=h1 at bc hns k31 ⊢
 have I4:=comp_start (tk:=s2.toks) S I3 bc f3 hlt hns k31
 have st4:tn 0 h1:=T.keep 0 _ h1 st2 fun b hb o e=>k31 b o (k23 b o e)
 have nofs:∀b∈fp,b∉(cxC X N' scope cl' h3.objs.size fp pins {s2 with heap:=h3} (upd H2 s2.heap.objs.size (.lst []))).fs:=I4.ok.exfs
 have stat:∀{H':Hp},(∀b∈fp,H' b=none)→∀b∈fp,FpOk (cxC X N' scope cl' h3.objs.size fp pins {s2 with heap:=h3} (upd H2 s2.heap.objs.size (.lst []))) [] H' b:=fun{H'} hn b hb=>
  ⟨hn b hb,Nat.ne_of_lt (hlt b hb),nofs b hb,.inl hb,fun x c e=>(bc.each x c e).elim (fun z=>(f3 b hb).2.2.2.2.1 x c z) (fun z q=>absurd z.1 (Nat.lt_asymm (by rw[q];exact hlt b hb))),fun p hp=>(f3 b hb).2.2.2.2.2 p (by simpa[cxC] using hp)⟩
 have loop:codeAny (model X.prog X.w) X.A (.compLoop (.ListComp elt [⟨tg,iter,[c],0⟩] scope pos) 0 (.ref it) (.ref s2.heap.objs.size) (compEnvC scope cl' h3.objs.size X.env))
   (R (.ref s2.heap.objs.size) h3.objs.size) {s2 with heap:=h1,toks:=s2.toks}:=by
  refine comp_loop1 (fun n s'=>∃i σc Hc,Inv (cxC X N' scope cl' h3.objs.size fp pins {s2 with heap:=h3} (upd H2 s2.heap.objs.size (.lst []))) [] σc Hc s'∧tn i s'.heap∧(∀b∈fp,Hc b=none)∧W i n σc Hc) ?_ m0
   ⟨0,_,_,I4,st4,fun b hb=>(f3 b hb).1,w0⟩
  rintro n z ⟨i,σc,Hc,Iz,stz,frz,wz⟩
  rcases turn i n σc Hc wz with⟨stop,qd⟩ | ⟨go,step⟩
  ·refine thn (T.done (cxC X N' scope cl' h3.objs.size fp pins {s2 with heap:=h3} (upd H2 s2.heap.objs.size (.lst []))) rfl rfl rfl hc i [] z σc Hc noE Iz (stat frz) stz stop) fun r s4 ⟨hr,I5⟩=>?_
   subst hr
   have J5:Inv X pins σ Hc s4:=I3.call' (s':=s4) I5.os I5.base I5.hok I5.bare fun b hb=>⟨(f3 b hb).2.2.2.1,(f3 b hb).2.1,(f3 b hb).2.2.2.2.1,(f3 b hb).2.2.2.2.2⟩
   obtain⟨m,hm,_⟩:=I5.loc
   refine back _ _ Hc s4 ⟨m,hm⟩ J5 I5.free (Nat.ne_of_gt I3.lt) (Nat.le_trans I3.ok.above (Nat.le_of_lt I3.lt)) (fun x c e z=>?_) (fun p hp z=>?_) qd
   ·obtain⟨v,q⟩:=I3.cell x c e
    exact absurd q.lt (by rw[z];exact Nat.lt_irrefl _)
   ·exact absurd (Heap.lt_size (I3.pin p hp).1) (by rw[z];exact Nat.lt_irrefl _)
  ·refine thn (T.item (cxC X N' scope cl' h3.objs.size fp pins {s2 with heap:=h3} (upd H2 s2.heap.objs.size (.lst []))) rfl rfl rfl hc i [] z σc Hc noE Iz (stat frz) stz go) fun r s4 ⟨u,hr,h4⟩=>?_
   subst hr
   refine thn h4 fun _ s5 ⟨x,H5,I5,r5,y5,st5,fr5⟩=>?_
   have I5':=I5.pinned (stat fr5) (T.obj _ _ st5)
   refine thn (hg _ _ _ _ _ _ _ s5 σc H5 x u _ I5' r5 (step x H5 y5)) fun _ s6 ⟨σ6,H6,I6,q6⟩=>?_
   refine thn (hq _ _ _ _ _ _ _ s6 σ6 H6 _ I6 q6) fun ok s6' ⟨H6',I6',q6'⟩=>?_
   cases ok with
   | false=>
    rw[if_neg Bool.false_ne_true] at q6' ⊢
    obtain⟨m',hm,w7⟩:=q6'
    refine⟨m',hm,i+1,σ6,_,I6'.unpinned,T.keep _ _ _ st5 fun b hb o e=>(I6'.pin (b,o) (List.mem_append_right _ (List.mem_append_right _ (mem_pinsAt hb e)))).1,fun b hb=>?_,w7⟩
    obtain⟨o,e,d⟩:=T.obj _ _ st5 b hb
    exact(I6'.pin (b,o) (List.mem_append_right _ (List.mem_append_right _ (mem_pinsAt hb e)))).2.1
   | true=>
   rw[if_pos rfl] at q6' ⊢
   refine thn (he _ _ _ _ _ _ _ s6' σ6 H6' _ I6' q6') fun v s7 ⟨y,H7,I7,r7,acc,hD,hlen,m',hm,w7⟩=>?_
   refine thn (mt_append _ s7 σ6 H7 (.ref s2.heap.objs.size) [y] (.ref s2.heap.objs.size) [v] (fun _ H8=>H8=upd H7 s2.heap.objs.size (.lst (acc++[y]))) I7 rfl (.cons r7 .nil) ⟨_,acc,y,rfl,rfl,hD,hlen,rfl⟩) fun _ s8 ⟨_,H8,I8,_,e8⟩=>?_
   subst e8
   refine⟨m',hm,i+1,σ6,_,I8.unpinned,T.keep _ _ _ st5 fun b hb o e=>(I8.pin (b,o) (List.mem_append_right _ (List.mem_append_right _ (mem_pinsAt hb e)))).1,fun b hb=>?_,w7⟩
   obtain⟨o,e,d⟩:=T.obj _ _ st5 b hb
   exact(I8.pin (b,o) (List.mem_append_right _ (List.mem_append_right _ (mem_pinsAt hb e)))).2.1
 exact codeAny_compStart_list loop (T.self _ 0 _ _ _ st4 loop)
theorem pe_comp1(hc:X.calm=true)(ho:compOk X.env.scope X.N N' js scope=true)(hi:PI X tg iter wi)(hg:∀cl C fp pins s H,PG (cxC X N' scope cl C fp pins s H) tg g)(hq:∀cl C fp pins s H,PT (cxC X N' scope cl C fp pins s H) c tc)(he:∀cl C fp pins s H,PE (cxC X N' scope cl C fp pins s H) elt te)
  (hs:∀x,foldedSetIterable iter X.env x=pure x:=by intro _;rfl):PE X (.ListComp elt [⟨tg,iter,[c],0⟩] scope pos) (tComp1 js wi g tc te):=by
 intro pins s σ H Q I h
 have S:=CompScope.of ho
 obtain⟨cl,hcl,c1,c2⟩:=closure_of (scope:=scope) (env:=X.env) fun n hn=>I.ok.has n (S.free n hn)
 rw[eval_ListComp]
 refine wpAny_comprehension_free (use:=none) rfl hs hcl S.kind S.loc (thn (hi pins s σ H _ I h) fun v s1 h1=>thn h1 fun itv s2 h2=>?_)
 obtain⟨it,fp,tn,J,H2,e,I2,T,st2,f2,q2⟩:=h2
 subst e
 refine comp_block1 (QD:=fun D Hc=>Q (.ref D) Hc) (R:=fun acc C=>compPost (model X.prog X.w) X.A X.xe none (EP X pins σ Q) acc C) hc S c1 c2 hg hq he I2 T st2 f2 q2 ?_
 intro D C Hc s4 ⟨m,hm⟩ J4 fC nL sC cC pC qd
 refine⟨m,hm,fun h' hs'=>⟨.ref D,Hc,?_,rfl,qd⟩⟩
 exact J4.turned (t':=s4.toks) (fun b o hb e=>(hs'.2 b hb).trans e) fC nL (.inr sC) cC pC
def tSetC1(i:Nat)(js:List (Option Nat))(wi:TI)(g:TG)(tc:TT)(te:TE):TS:=fun D σ H=>tComp1 js wi g tc te σ H fun v H1=>D.nx (σ.set i (some v)) H1
theorem ps_comp1{i:Nat}{x:Str}{px spos:Pos}(hc:X.calm=true)(ho:compOk X.env.scope X.N N' js scope=true)(hN:X.N.Nodup)(hx:X.N[i]?=some x)(hl:X.env.scope.names.lookup x=some .local)(hi:PI X tg iter wi)
  (hg:∀cl C fp pins s H,PG (cxC X N' scope cl C fp pins s H) tg g) (hq:∀cl C fp pins s H,PT (cxC X N' scope cl C fp pins s H) c tc) (he:∀cl C fp pins s H,PE (cxC X N' scope cl C fp pins s H) elt te)
  (hsw:swapsWith (.ListComp elt [⟨tg,iter,[c],0⟩] scope pos) (some (.Name x px)) spos.line X.env=pure true)
  (hs:∀x,foldedSetIterable iter X.env x=pure x:=by intro _;rfl):PS X (.Assign [.Name x px] (.ListComp elt [⟨tg,iter,[c],0⟩] scope pos) spos) (tSetC1 i js wi g tc te):=by
 intro pins s σ H D I h
 have S:=CompScope.of ho
 obtain⟨cl,hcl,c1,c2⟩:=closure_of (scope:=scope) (env:=X.env) fun n hn=>I.ok.has n (S.free n hn)
 rw[exec_Assign_Name_used _ _ _ _ hsw]
 refine wpAny_bind (wpAny_standAt (wpAny_bind ?_))
 show wpAny _ _ (do let _ ←comprehension (.ListComp elt [⟨tg,iter,[c],0⟩] scope pos) scope X.env _ (newList []) false (eval iter X.env) (some (assign (.Name x px) X.env))) _ _ s
 refine wpAny_bind (wpAny_mono (wpAny_comprehension_free (use:=some (assign (.Name x px) X.env)) (Q:=fun _ s'=>SP X pins D .next s') rfl hs hcl S.kind S.loc (thn (hi pins s σ H _ I h) fun v s1 h1=>thn h1 fun itv s2 h2=>?_)) (fun _ s' hq=>wpAny_pure (wpAny_pure hq)) fun _ _ e=>e)
 obtain⟨it,fp,tn,J,H2,e,I2,T,st2,f2,q2⟩:=h2
 subst e
 refine comp_block1 (QD:=fun E' Hc=>D.nx (σ.set i (some (.ref E'))) Hc) (R:=fun acc C=>compPost (model X.prog X.w) X.A X.xe (some (assign (.Name x px) X.env)) (fun _ s'=>SP X pins D .next s') acc C) hc S c1 c2 hg hq he I2 T st2 f2 q2 ?_
 intro E' C Hc s4 ⟨m,hm⟩ J4 fC nL sC cC pC qd
 show wpAny _ _ (assign (.Name x px) X.env (.ref E')) _ _ s4
 refine wpAny_assign_Name (store_ok2 J4 hN hx (.inl hl) (v:= .ref E') rfl (fun s5 J5 ⟨a,sb,ha⟩=>?_) (.inr hl))
 have hCa:C≠a:=by
  rcases ha with z | z
  ·rw[z];exact nL
  ·exact(cC x a z).symm
 refine⟨m,hm.sameBut sb hCa,fun h' hs'=>⟨σ.set i (some (.ref E')),Hc,?_,qd⟩⟩
 exact J5.turned (t':=s5.toks) (fun b o hb e=>(hs'.2 b hb).trans e) fC nL (.inr sC) cC pC
end
end L3
namespace L3
open PySem
def ExAt(h:Heap)(e:Addr)(cls:Value)(dd:Option Addr)(tb:Value):Prop:=∃oe vs,h.get? e=some oe∧(oe.cls=cls∧oe.dict=dd)∧oe.data= .fields vs∧vs[1]?=some tb
def TbAt(h:Heap)(T:Addr)(fl:Value):Prop:=∃oT ts,h.get? T=some oT∧oT.data= .fields ts∧ts[3]?=some fl
theorem ExAt.at{h h':Heap}{e:Addr}{cls:Value}{dd:Option Addr}{tb:Value}(x:ExAt h e cls dd tb)(k:∀o,h.get? e=some o→h'.get? e=some o):ExAt h' e cls dd tb:=
 let ⟨oe,vs,he,r⟩:=x;⟨oe,vs,k _ he,r⟩
theorem TbAt.at{h h':Heap}{T:Addr}{fl:Value}(x:TbAt h T fl)(k:∀o,h.get? T=some o→h'.get? T=some o):TbAt h' T fl:=
 let ⟨o,ts,he,r⟩:=x;⟨o,ts,k _ he,r⟩
theorem dict_mapFields(o:Obj)(f:Array Value→Array Value):(o.mapFields f).dict=o.dict:=by
 obtain⟨c,d,dt,sl⟩:=o;cases dt<;>rfl
structure Flown(fs xs:List Addr)(h h':Heap):Prop where
 keep:∀b o,h.get? b=some o→b∉fs→b∉xs→h'.get? b=some o
 slot:∀b o,h.get? b=some o→b∈fs→b∉xs→∃sl,h'.get? b=some {o with slots:=sl}
 there:∀b o,h.get? b=some o→∃o',h'.get? b=some o'
theorem Flown.trans{fs xs ys:List Addr}{h h1 h2:Heap}(a:Flown fs xs h h1)(b:Flown fs ys h1 h2)(hy:∀z∈ys,z∈xs∨h.get? z=none):Flown fs xs h h2 where
 keep:=fun c o e hf hx=>b.keep c o (a.keep c o e hf hx) hf fun z=>(hy c z).elim hx fun q=>by rw[q] at e;cases e
 slot:=fun c o e hf hx=>by
  obtain⟨sl,e1⟩:=a.slot c o e hf hx
  obtain⟨sl',e2⟩:=b.slot c _ e1 hf fun z=>(hy c z).elim hx fun q=>by rw[q] at e;cases e
  exact⟨sl',e2⟩
 there:=fun c o e=>let ⟨o1,e1⟩:=a.there c o e;b.there c o1 e1
section
variable{M:Model}{A:Around}{E:Value→Shared→Prop}{s:Shared}{base:Heap}{env:Env}{outer:List Env}{L e:Addr}{cls:Value}{dd:Option Addr}{tb:Value}
abbrev frsE(l:List Env):List Addr:=l.filterMap (·.frame)
theorem ex_nofr(hl:s.heap.FunFrames base (env::outer))(hx:ExAt s.heap e cls dd tb):e∉frsE (env::outer):=fun hm=>by
 obtain⟨oe,vs,he,_,hd,_⟩:=hx
 obtain⟨_,o,ho,hnf⟩:=hl.mem hm
 rw[he] at ho;injection ho with ho;subst ho;exact hnf vs hd
theorem new_entry{head:Value}{hadNext:Bool}{Q:Unit→Shared→Prop}(hfr:A.frames=some (env::outer))(hl:s.heap.FunFrames base (env::outer))(hf:env.frame=some L)(hx:ExAt s.heap e cls dd tb)
  (h:∀h' T,s.heap.objs.size≤T→T≠e→ExAt h' e cls dd (.ref T)→TbAt h' T (rawInt L)→Flown (frsE (env::outer)) [e] s.heap h'→Q () {s with heap:=h'}):
  wpAny M A (do let a ←frameOf env;let pl ←entryPlaceOf L hadNext;let b ←EntryCells.newEntry head a .none (rawInt L) .none pl;setField (.ref e) 1 b) Q E s:=by
 have hene:=ex_nofr hl hx
 obtain⟨oe,vs,he,⟨hc,hdd⟩,hd,h1⟩:=hx
 have hsz:1<vs.size:=(Array.getElem?_eq_some_iff.mp h1).1
 refine wpAny_bind (wpAny_frameOf_fun hfr hl hf fun h1 hs1=>?_)
 refine wpAny_bind (wpAny_entryPlaceOf fun pl hpl=>?_)
 unfold EntryCells.newEntry newFields
 refine wpAny_bind (wpAny_newObj_type ?_ (hpl.sizeOk5 _ _ _ _ _))
 generalize hob:({cls:= .type "traceback",dict:=none,data:= .fields ([head,.ref L,.none,rawInt L,.none]++(if pl.isEmpty then List.replicate 6 Value.none else pl)).toArray}:Obj)=ob
 have he1:h1.get? e=some oe:=(hs1.2.1 e hene).trans he
 have hne:ob.isFreed=false:=by rw[←hob];rfl
 refine wpAny_setField (Heap.get?_push_of_some ob he1) hd hsz (h _ h1.objs.size ?_ (Nat.ne_of_gt (Heap.lt_size he1)) ?_ ?_ ?_)
 ·exact Nat.le_of_eq hs1.1.symm
 ·have hd3:=Obj.data_mapFields hd (·.setIfInBounds 1 (Value.ref h1.objs.size))
  refine⟨_,_,Heap.get?_update_self _ (Heap.get?_push_of_some ob he1) (Obj.isFreed_of_fields hd3),⟨(Obj.cls_mapFields _ _).trans hc,(dict_mapFields _ _).trans hdd⟩,hd3,by simp[hsz]⟩
 ·refine⟨ob,_,(Heap.get?_update_other _ _ (Nat.ne_of_lt (Heap.lt_size he1))).trans (Heap.get?_push_size h1 hne),by rw[←hob],?_⟩
  first | (simp;done) | (rcases hpl with rfl | ⟨_,_,_,_,_,_,_,rfl⟩<;>simp)
 ·have keep:∀b o,b≠e→h1.get? b=some o→((h1.push ob).update e (Obj.mapFields (·.setIfInBounds 1 (Value.ref h1.objs.size)))).get? b=some o:=fun b o hb q=>by
   rw[Heap.get?_update_other _ _ (Ne.symm hb)]
   exact Heap.get?_push_of_some _ q
  refine⟨fun b o q hb hx=>keep b o (by simpa using hx) ((hs1.2.1 b hb).trans q),fun b o q hb hx=>?_,fun b o q=>?_⟩
  ·obtain⟨sl,z⟩:=hs1.2.2 b o q
   exact⟨sl,keep b _ (by simpa using hx) z⟩
  ·obtain⟨sl,z⟩:=hs1.2.2 b o q
   by_cases hb:b=e
   ·subst hb
    exact⟨_,Heap.get?_update_self _ (Heap.get?_push_of_some ob he1) (Obj.isFreed_of_fields (Obj.data_mapFields hd _))⟩
   ·exact⟨_,keep b _ hb z⟩
theorem note_first{Q:Unit→Shared→Prop}(hfr:A.frames=some (env::outer))(hl:s.heap.FunFrames base (env::outer))(hf:env.frame=some L)(hx:ExAt s.heap e cls dd .none)
  (h:∀h' T,s.heap.objs.size≤T→T≠e→ExAt h' e cls dd (.ref T)→TbAt h' T (rawInt L)→Flown (frsE (env::outer)) [e] s.heap h'→Q () {s with heap:=h'}):
  wpAny M A (noteFrame (.ref e) env) Q E s:=by
 obtain⟨oe,vs,he,hc,hd,h1⟩:=id hx
 unfold noteFrame
 simp only[hf]
 refine wpAny_bind (wpAny_field he hd h1 ?_)
 rw[if_neg (by decide)]
 exact new_entry hfr hl hf hx h
theorem note_next{T0:Addr}{Q:Unit→Shared→Prop}(hfr:A.frames=some (env::outer))(hl:s.heap.FunFrames base (env::outer))(hf:env.frame=some L)(hx:ExAt s.heap e cls dd (.ref T0))(ht:TbAt s.heap T0 .none)(hne:T0≠e)
  (h:∀h' T,s.heap.objs.size≤T→T≠e→ExAt h' e cls dd (.ref T)→TbAt h' T (rawInt L)→Flown (frsE (env::outer)) [e,T0] s.heap h'→Q () {s with heap:=h'}):
  wpAny M A (noteFrame (.ref e) env) Q E s:=by
 obtain⟨oe,vs,he,hc,hd,h1⟩:=id hx
 obtain⟨oT,ts,hT,hdT,h3⟩:=id ht
 unfold noteFrame
 simp only[hf]
 refine wpAny_bind (wpAny_field he hd h1 ?_)
 rw[if_pos (show(Value.ref T0 !=Value.none)=true from by simp)]
 refine wpAny_bind (wpAny_field hT hdT h3 ?_)
 rw[if_neg (show ¬((Value.none==rawInt L)=true) from by simp[rawInt])]
 refine wpAny_bind (wpAny_setField hT hdT (Array.getElem?_eq_some_iff.mp h3).1 ?_)
 have other:∀b,b≠T0→(s.heap.update T0 (Obj.mapFields (·.setIfInBounds 3 Value.none))).get? b=s.heap.get? b:=fun b hb=>Heap.get?_update_other _ _ (Ne.symm hb)
 have selfT:(s.heap.update T0 (Obj.mapFields (·.setIfInBounds 3 Value.none))).get? T0=some (oT.mapFields (·.setIfInBounds 3 Value.none)):=Heap.get?_update_self _ hT (Obj.isFreed_of_fields (Obj.data_mapFields hdT _))
 have noRec:∀b o,s.heap.get? b=some o→(∀vs,o.data≠ .fields vs)→b≠T0:=fun b o hb hnf q=>by
  rw[q,hT] at hb;injection hb with hb;subst hb;exact hnf ts hdT
 have fl0:Flown (frsE (env::outer)) [e,T0] s.heap (s.heap.update T0 (Obj.mapFields (·.setIfInBounds 3 Value.none))):=by
  refine⟨fun b o q _ hx=>(other b (by simp at hx;exact hx.2)).trans q,fun b o q _ hx=>⟨o.slots,(other b (by simp at hx;exact hx.2)).trans q⟩,fun b o q=>?_⟩
  by_cases hb:b=T0
  ·subst hb;exact⟨_,selfT⟩
  ·exact⟨o,(other b hb).trans q⟩
 refine new_entry (s:={s with heap:=s.heap.update T0 (Obj.mapFields (·.setIfInBounds 3 Value.none))}) hfr (hl.of_keeps fun b o hb hnf=>⟨o,(other b (noRec b o hb hnf)).trans hb,rfl⟩) hf
  (hx.at fun o q=>(other e (Ne.symm hne)).trans q) fun h' T z1 z2 z3 z4 z5=>h h' T ?_ z2 z3 z4 (fl0.trans z5 fun z hz=> .inl (by simp at hz;simp[hz]))
 exact Nat.le_trans (Nat.le_of_eq (Heap.size_update ..).symm) z1
theorem set_flight{T0:Addr}{fl:Value}{fr:Option Addr}{Q:Unit→Shared→Prop}(hx:ExAt s.heap e cls dd (.ref T0))(ht:TbAt s.heap T0 fl)(hne:T0≠e)
  (h:∀h',ExAt h' e cls dd (.ref T0)→TbAt h' T0 (fr.elim Value.none fun f=>rawInt f)→(∀b o,b≠T0→s.heap.get? b=some o→h'.get? b=some o)→(∀b o,s.heap.get? b=some o→∃o',h'.get? b=some o')→Q () {s with heap:=h'}):
  wpAny M A (setFlight (.ref e) fr) Q E s:=by
 obtain⟨oe,vs,he,hc,hd,h1⟩:=id hx
 obtain⟨oT,ts,hT,hdT,h3⟩:=id ht
 have hsz3:3<ts.size:=(Array.getElem?_eq_some_iff.mp h3).1
 have other:∀b,b≠T0→(s.heap.update T0 (Obj.mapFields (·.setIfInBounds 3 (fr.elim Value.none fun f=>rawInt f)))).get? b=s.heap.get? b:=fun b hb=>Heap.get?_update_other _ _ (Ne.symm hb)
 have selfT:(s.heap.update T0 (Obj.mapFields (·.setIfInBounds 3 (fr.elim Value.none fun f=>rawInt f)))).get? T0=some (oT.mapFields (·.setIfInBounds 3 (fr.elim Value.none fun f=>rawInt f))):=Heap.get?_update_self _ hT (Obj.isFreed_of_fields (Obj.data_mapFields hdT _))
 unfold setFlight
 refine wpAny_bind (wpAny_field he hd h1 ?_)
 rw[if_pos (show(Value.ref T0 !=Value.none)=true from by simp)]
 refine wpAny_setField hT hdT hsz3 (h _ (hx.at fun o q=>(other e (Ne.symm hne)).trans q) ⟨_,_,selfT,Obj.data_mapFields hdT _,by simp[hsz3]⟩ (fun b o hb q=>(other b hb).trans q) fun b o q=>?_)
 by_cases hb:b=T0
 ·subst hb;exact⟨_,selfT⟩
 ·exact⟨o,(other b hb).trans q⟩
end
end L3
namespace L3
open PySem PySem.W
abbrev noTup(rest:List Value):Obj:={cls:= .type "tuple",data:= .seq rest.toArray}
abbrev exNew(C t:Addr):Obj:={cls:= .ref C,data:= .fields #[.ref t,.none,.none,.none,.bool false,.none]}
section
variable{prog:Program}{w:World}{A:Around}{h:Heap}{g:Array GenState}{d:Drawn}{t:Nat}{os:OsState}
variable{nm q:Str}{C N f:Addr}{bs bm:List Value}{hdct:Bool}{sn:List Str}{sub:List Value}{ab:Bool}{col:Option Bool}{dd:Option Addr}{k0 k1 k2 k3 k5:Option Value}{Bn newId inN:String}{bmN:List Value}
structure ExcCls(h:Heap)(C:Addr)(nm q:Str)(N:Addr)(bs bm:List Value)(hdct:Bool)(sn:List Str)(sub:List Value)(ab:Bool)(col:Option Bool)(dd:Option Addr)(k0 k1 k2 k3 k5:Option Value)(Bn newId:String):Prop where
 obj:h.get? C=some (excClassObj nm q C N bs bm hdct sn sub ab col dd k0 k1 k2 k3 k5 newId)
 hB:(Value.ref C::bm).contains (.type Bn)=true
 hA:(Value.ref C::bm).contains (.type "AttributeError")=false
 hN:(Value.ref C::bm).contains (.type "NameError")=false
 hE:(Value.ref C::bm).contains (.type "BaseException")=true
theorem exc_check{M:Model}{E:Value→Shared→Prop}(Fn:ExcBaseFacts Bn newId inN bmN)(x:ExcCls h C nm q N bs bm hdct sn sub ab col dd k0 k1 k2 k3 k5 Bn newId){rest:List Value}{Q:Unit→Shared→Prop}(hq:Q () ⟨h,g,d,t,os⟩):
  wpAny M A (checkBuiltinCall newId ⟨.ref C::rest,[]⟩) Q E ⟨h,g,d,t,os⟩:=by
 have hC:=x.obj
 have hB:=x.hB
 have hstar:=Fn.noStar
 simp only[checkBuiltinCall,Fn.newKind,Fn.newSplit,Fn.newRow]
 repeat (first
  | refine wpAny_loadPart_at hC ?_
  |(refine wpAny_isSubtype_exc hC ?_;rw[hB])
  | refine wpAny_staticBase_exc hC ?_
  | refine wpAny_madeBy_exc hC ?_
  | simp only[bne_self_eq_false,Bool.false_eq_true,if_false]
  | wp_step)
 exact hq
theorem exc_new{R:Result→Shared→Prop}(Fn:ExcBaseFacts Bn newId inN bmN)(x:ExcCls h C nm q N bs bm hdct sn sub ab col dd k0 k1 k2 k3 k5 Bn newId){rest:List Value}
  (hq:R (.ok (.ret (.ref (h.objs.size+1)))) ⟨(h.push (noTup rest)).push (exNew C h.objs.size),g,d,t,os⟩) (hrest:rest.length≤sizeLine):
  codeAny (model prog w) A (.builtin newId ⟨.ref C::rest,[]⟩) R ⟨h,g,d,t,os⟩:=by
 have hends:=Fn.ends
 obtain⟨hC,hcB,hcA,hcN,_⟩:=x
 refine codeAny_builtinAt Fn.entry ?_
 unfold Builtin.«BaseException.__new__»
 refine wpAt_bind ?_
 show wpAt _ _ _ (stack >>=_) _ _ _
 refine wpAt_bind (wpAt_stack fun p below=>wpAt_of_wpAny ?_)
 wp_walk
 refine wpAt_of_wpAny ?_
 rw[Fn.owner]
 repeat (first
  | with_reducible refine wpAny_madeHere_exc Fn.canon hC ?_
  | with_reducible refine wpAny_loadPart_at hC ?_
  |(with_reducible refine wpAny_isSubtype_exc hC ?_;first | rw[hcB] | rw[hcA] | rw[hcN])
  | wp_step)
 show R _ _
 rw[Heap.size_push]
 exact hq
def InitEnd(e:Addr)(R:Result→Shared→Prop)(r:Result)(s':Shared):Prop:=match r with
 | .ok (.ret v)=>v= .none∧R (.ok (.ret (.ref e))) s'
 | .ok _=>False
 | .error z=>R (.error z) s'
theorem exc_call{R:Result→Shared→Prop}(Fn:ExcBaseFacts Bn newId inN bmN)(x:ExcCls h C nm q N bs bm hdct sn sub ab col dd k0 k1 k2 k3 k5 Bn newId){rest:List Value}
  (hi:Looks (model prog w) h (typeLookup (.ref C) "__init__") (some (.ref f))) (hb:∀self,Looks (model prog w) h (bindSpecial (.ref f) self) (.ref f,[self]))
  (hq:codeAny (model prog w) (A.under (.builtin "type.__call__" ⟨.ref C::rest,[]⟩)) (.call (.ref f) ⟨.ref (h.objs.size+1)::rest,[]⟩) (InitEnd (h.objs.size+1) R) ⟨(h.push (noTup rest)).push (exNew C h.objs.size),g,d,t,os⟩)
  (hrest:rest.length≤sizeLine):codeAny (model prog w) A (.call (.ref C) ⟨rest,[]⟩) R ⟨h,g,d,t,os⟩:=by
 have hC:=x.obj
 have f1:=tc_lookup
 have f2:=tc_bind (.ref C)
 have hT:(⟨h,g,d,t,os⟩:Shared).TypeIs (.ref C) "type":=⟨_,hC,rfl⟩
 refine codeAny_of_tree ?_
 show wpAny _ _ (callAny (.ref C) _) _ _ _
 repeat (any_goals (first | assumption | with_reducible refine wpAny_loadPart_at hC ?_ | wp_step))
 refine⟨rfl,?_⟩
 refine codeAny_call_builtin_at (Code.quiet_builtin _ (by decide+kernel)) entry_typeCall (wpAny_check_type_call_sub hC ?_)
 repeat (first | with_reducible refine wpAny_loadPart_at hC ?_ | with_reducible refine wpAny_madeBy_exc hC ?_ | wp_step)
 refine codeAny_call_builtin_code (Code.quiet_builtin _ Fn.quiet) (exc_check Fn x ?_)
 refine exc_new Fn x ?_ hrest
 show wpAny _ _ _ _ _ _
 have k:∀b o,h.get? b=some o→((h.push (noTup rest)).push (exNew C h.objs.size)).get? b=some o:=fun b o e=>Heap.get?_push_of_some _ (Heap.get?_push_of_some _ e)
 have hC1:=k _ _ hC
 have hget:((h.push (noTup rest)).push (exNew C h.objs.size)).get? (h.objs.size+1)=some (exNew C h.objs.size):=by heap_get
 have hcC:(Value.ref C::bm).contains (.ref C)=true:=by simp
 have i1:=hi.keeps k
 have b1:=(hb (.ref (h.objs.size+1))).keeps k
 have t1:Looks (model prog w) ((h.push (noTup rest)).push (exNew C h.objs.size)) (typeOf (.ref (h.objs.size+1))) (.ref C):=(Looks.ld hget).andThen .now
 unfold isInstance
 repeat (first | with_reducible refine wpAny_loadPart_at hget ?_ | (with_reducible refine wpAny_isSubtype_exc hC1 ?_;rw[hcC]) | wp_step)
 show wpAny _ (A.under (.builtin "type.__call__" ⟨.ref C::rest,[]⟩)) (isSubtype (.ref C) (.ref C)) _ _ ⟨(h.push (noTup rest)).push (exNew C h.objs.size),g,d,t,os⟩
 refine wpAny_isSubtype_exc hC1 ?_
 rw[hcC]
 unfold callSpecial? specialOf
 repeat (first | simp only[Bool.not_true,Bool.false_eq_true,if_false] | with_reducible refine wpAny_call ?_ | lk)
 refine codeAny_mono hq fun r s' z=>?_
 rcases r with e | (v | _ | _ | _)<;>first | exact z | exact z.elim | skip
 obtain⟨rfl,z⟩:=z
 exact wpAny_pure (wpAny_pure z)
end
end L3
namespace L3
open PySem PySem.W PySem.Calls PyProof.Rows Builtin Builtin.ObjectAttr
theorem refuse_exc(self:Value):refuseLoop self "__setattr__" [.type "ValueError",.type "Exception",.type "BaseException",.type "object"]=pure ():=by
 kernel_rfl
structure ExcSet(K:Frag)(C:Addr)(name:Str):Prop where
 cls:∃cd own,clsIn K C=some cd∧cd.hasDict=true∧cd.mro=own++[.type "ValueError",.type "Exception",.type "BaseException",.type "object"]∧∀v∈own,∃a,v=Value.ref a
 no:findIn K (.ref C) name=some none
 set:findIn K (.ref C) "__setattr__"=some (some (.builtin "object.__setattr__"))
theorem refuse_own(self:Value):∀own:List Value,(∀v∈own,∃a,v=Value.ref a)→refuseLoop self "__setattr__" (own++[.type "ValueError",.type "Exception",.type "BaseException",.type "object"])=pure ()
 | [],_=>refuse_exc self
 | v::r,h=>by
  obtain⟨a,rfl⟩:=h v List.mem_cons_self
  rw[List.cons_append,refuseLoop_ref]
  exact refuse_own self r fun u hu=>h u (List.mem_cons_of_mem _ hu)
section
variable{prog:Program}{w:World}{A:Around}{K:Frag}{C e:Addr}{s:Shared}{name:Str}{R:Result→Shared→Prop}
theorem exc_store{tk:Tok}{v:Value}{oe:Obj}{vs:Array Value}(X:K.In s.heap)(S:ExcSet K C name)(he:s.heap.get? e=some oe)(hc:oe.cls= .ref C)(hdd:oe.dict=none)(hd:oe.data= .fields vs)
  (h:∀h' tk',h'.get? e=some {oe with dict:=some s.heap.objs.size}→h'.Ns1 s.heap.objs.size (fun x=>if x=name then some v else none)→(∀b o,b≠e→s.heap.get? b=some o→h'.get? b=some o)→R (.ok (.ret .none)) {s with heap:=h',toks:=tk'}):
  codeAny (model prog w) A (.call (.builtin "object.__setattr__") ⟨[.ref e,.str name tk,v],[]⟩) R s:=by
 obtain⟨⟨cd,own,hcd,hhd,hmro,hown⟩,hno,_⟩:=S
 have SF:=PySem.F.store_object
 have ty:Looks (model prog w) s.heap (typeOf (.ref e)) (.ref C):=by rw[←hc];exact(Looks.ld he).andThen .now
 have ne:cd.mro.isEmpty=false:=by rw[hmro];cases own<;>rfl
 have ho:cd.mro.contains (.type "object")=true:=by rw[hmro];simp
 have sub:Looks (model prog w) s.heap (isInstance (.ref e) (.type "object")) true:=ty.andThen (looks_mroIn X (by unfold mroIn;rw[hcd,Option.bind_some,if_neg (by rw[ne];decide),ho]))
 refine codeAny_call_builtin SF.slot.plain SF.entry (@check_slot (model prog w) _ _ s "object.__setattr__" "object" "__setattr__" (.ref e) [.str name tk,v] [] _ SF.kind SF.split sub (SF.args (.ref e) (.str name tk) v) ?_)
 have hm:Looks (model prog w) s.heap (mroOf (.ref C)) cd.mro:=(looks_clsIn X hcd).andThen .now
 rw[osa_eq,refuse_eq]
 refine wpAny_bind (wpAny_bind (ty.here (wpAny_bind (hm.here ?_))))
 rw[hmro,refuse_own _ own hown]
 refine wpAny_pure (wpAny_bind (ty.here (wpAny_bind ((looks_findIn X hno).here (wpAny_bind (wpAny_pure ?_))))))
 show wpAny _ _ (storeInOwnDict (.ref e) (.ref C) (.str name tk) name v false) _ _ _
 obtain⟨c,dct,dt,sl⟩:=oe
 dsimp only at hc hdd hd
 subst hc hdd hd
 refine wpAny_bind (wpAny_pure (wpAny_bind (wpAny_bind (wpAny_loadPart he (wpAny_bind ((looks_clsIn X hcd).here ?_))))))
 rw[hhd]
 show wpAny _ _ (alloc {cls:=Value.type "dict",data:=Data.dict #[]} >>=fun d=>update e (fun o=>{o with dict:=some d}) >>=fun _=>dictMade (.ref C) e d) _ _ s
 refine wpAny_bind (wpAny_alloc (wpAny_bind (wpAny_update (Heap.get?_push_of_some _ he) ?_)))
 refine wpAny_pure (a:=some s.heap.objs.size) ?_
 refine wpAny_bind (wpAny_pure (wpAny_bind ?_))
 have D:((s.heap.push {cls:=Value.type "dict",data:=Data.dict #[]}).update e fun o=>{o with dict:=some s.heap.objs.size}).get? s.heap.objs.size=some {cls:=Value.type "dict",data:=Data.dict #[]}:=
  (Heap.get?_update_other _ _ (Nat.ne_of_lt (Heap.lt_size he))).trans (Heap.get?_push_size _ rfl)
 have D2:∀f:Obj→Obj,(f {cls:=Value.type "dict",data:=Data.dict #[]}).isFreed=false→(((s.heap.push {cls:=Value.type "dict",data:=Data.dict #[]}).update e fun o=>{o with dict:=some s.heap.objs.size}).update s.heap.objs.size f).get? s.heap.objs.size=
   some (f {cls:=Value.type "dict",data:=Data.dict #[]}):=fun f hf=>Heap.get?_update_self f D hf
 unfold nsSet
 refine wpAny_bind (wpAny_bind (wpAny_askSetting (wpAny_pure (wpAny_bind (wpAny_mkText (wpAny_bind (wpAny_loadPart D ?_)))))))
 dsimp only
 rw[show aRefKeyMayBeTheName name #[]=false from rfl,if_neg Bool.false_ne_true]
 refine wpAny_updatePart D ?_
 refine wpAny_bind (wpAny_lookBehind (D2 _ rfl) ?_ ?_)
 ·exact pastItsLine_dict (by show 1≤_;decide)
 refine wpAny_pure ?_
 refine h _ _ ?_ ?_ ?_
 ·rw[Heap.get?_update_other _ _ (Nat.ne_of_gt (Heap.lt_size he))]
  exact Heap.get?_update_self _ (Heap.get?_push_of_some _ he) rfl
 ·refine⟨_,_,_,D2 _ rfl,rfl,?_,?_,?_⟩
  ·show StrKeys #[(⟨_,.str name _,v⟩:DictEntry)]
   intro x hx
   simp at hx
   subst hx
   exact⟨name,_,rfl⟩
  ·show UniqKeys #[(⟨_,.str name _,v⟩:DictEntry)]
   simp[UniqKeys]
  ·intro n
   show nsFind #[(⟨_,.str name _,v⟩:DictEntry)] n=_
   by_cases hn:n=name
   ·subst hn
    simp[nsFind,findBy,Value.isStr]
   ·have hb:(name==n)=false:=by simpa using Ne.symm hn
    simp[nsFind,findBy,Value.isStr,hb,hn]
 ·intro b o hb q
  rw[Heap.get?_update_other _ _ (Nat.ne_of_gt (Heap.lt_size q)),Heap.get?_update_other _ _ (Ne.symm hb)]
  exact Heap.get?_push_of_some _ q
theorem exc_setAttr{v:Value}{oe:Obj}{vs:Array Value}{E:Value→Shared→Prop}{Q:Unit→Shared→Prop}(X:K.In s.heap)(S:ExcSet K C name)(he:s.heap.get? e=some oe)(hc:oe.cls= .ref C)(hdd:oe.dict=none)(hd:oe.data= .fields vs)
  (h:∀h' tk',h'.get? e=some {oe with dict:=some s.heap.objs.size}→h'.Ns1 s.heap.objs.size (fun x=>if x=name then some v else none)→(∀b o,b≠e→s.heap.get? b=some o→h'.get? b=some o)→Q () {s with heap:=h',toks:=tk'}):
  wpAny (model prog w) A (setAttr (.ref e) name v) Q E s:=by
 have J:InstAt s.heap e oe C none:=⟨he,hc,by unfold notCls;rw[hd],by rw[hdd];trivial⟩
 exact set_plain X J S.set (exc_store (s:={s with toks:=s.toks+1}) X S he hc hdd hd fun h' tk' a b c=>h h' tk' a b c)
structure ExcGet(K:Frag)(C:Addr)(name:Str):Prop where
 cls:∃cd,clsIn K C=some cd∧cd.hasDict=true
 no:findIn K (.ref C) name=some none
 ga:findIn K (.ref C) "__getattribute__"=some (some (.builtin "BaseException.__getattribute__"))
 gh:findIn K (.ref C) "__getattr__"=some none
 base:mroIn K C (.type "BaseException")=some true
theorem bg_bind(self:Value):bindSpecial (.builtin "BaseException.__getattribute__") self=pure (.builtin "BaseException.__getattribute__",[self]):=by kernel_rfl
theorem bg_kind:builtinKind "BaseException.__getattribute__"=some .slot:=by decide+kernel
theorem bg_split:splitId "BaseException.__getattribute__"=some ("BaseException","__getattribute__"):=by decide+kernel
theorem bg_plain:plainId "BaseException.__getattribute__"=true:=by decide+kernel
theorem bg_args(a b:Value):argsOk "BaseException.__getattribute__" ⟨[a,b],[]⟩:=by unfold argsOk;kernel_rfl
end
end L3
namespace L3
open PySem PySem.Spec PyProof.Rows L2
def XO(e:Addr)(cls:Value)(dd:Option Addr):HO:= .ext fun h=>∃oe vs tb,h.get? e=some oe∧(oe.cls=cls∧oe.dict=dd)∧oe.data= .fields vs∧vs[1]?=some tb
theorem XO.ok{P:Program}{w:World}{H:Hp}{h:Heap}{e:Addr}{cls:Value}{dd:Option Addr}{tb:Value}(x:ExAt h e cls dd tb):ObjOk P w H h e (XO e cls dd):=by
 obtain⟨oe,vs,h1,h2,h3,h4⟩:=x
 exact⟨⟨oe,vs,tb,h1,h2,h3,h4⟩,⟨oe,h1⟩,fun a b ⟨oe,vs,tb,q1,q2⟩ k=>⟨oe,vs,tb,k _ q1,q2⟩⟩
theorem XO.at{P:Program}{w:World}{H:Hp}{h:Heap}{e:Addr}{cls:Value}{dd:Option Addr}(x:ObjOk P w H h e (XO e cls dd)):∃tb,ExAt h e cls dd tb:=by
 obtain⟨⟨oe,vs,tb,q1,q2,q3,q4⟩,_⟩:=x
 exact⟨tb,oe,vs,q1,q2,q3,q4⟩
def CX1(P:Program)(w:World):CXT:=fun outer H s E e s'=>∃(ea T:Addr) (cls:Value) (dd:Option Addr) (H':Hp),e= .ref ea∧s'.os=s.os∧AllBare s'.gens∧Un (frs outer) [] H H' s.heap s'.heap∧HOk P w H' s'.heap∧
 (s.heap.objs.size≤ea∧s.heap.objs.size≤T)∧H' ea=some (XO ea cls dd)∧(H' T=none∧T≠ea)∧ExAt s'.heap ea cls dd (.ref T)∧TbAt s'.heap T .none∧E cls dd H'
structure Leaves(X:Cx)(E:XK):Prop where
 stk:X.stack=X.env::X.outer
 fr:X.env.frame=some X.env.locals
 ex:X.ex=[]
 xe:∀e s',wpAny (model X.prog X.w) X.A (leaving X.env e) (fun _ s''=>CX1 X.prog X.w X.outer X.H₀ X.s₀ E e s'') (fun e' s''=>CX1 X.prog X.w X.outer X.H₀ X.s₀ E e' s'') s'→X.xe e s'
theorem leaves_of{P:Program}{w:World}{K:PySem.W.Frag}{mg:Str→Option Value}{base:Heap}{N:List Str}{qual:Str}{scope:Scope}{f:Addr}{cd:Value}{A:Around}{outer:List Env}{s:Shared}{H:Hp}{E:XK}:
  Leaves (cxOf (CX1 P w) P w K mg base N qual scope f cd A outer s H E) E:=⟨rfl,rfl,rfl,fun _ _ h=>h⟩
theorem obj_is{P:Program}{w:World}{H:Hp}{h:Heap}{a:Addr}{o:HO}(x:ObjOk P w H h a o):∃u,h.get? a=some u:=by
 cases o with
 | lst xs=>obtain⟨_,_,_,_,e⟩:=x;exact⟨_,e⟩
 | tup xs=>obtain⟨_,_,_,⟨_,e,_⟩⟩:=x;exact⟨_,e⟩
 | dK kvs=>obtain⟨_,_,_,_,o,_,_,e,_⟩:=x;exact⟨_,e⟩
 | dT kvs=>obtain⟨_,_,_,_,o,_,_,e,_⟩:=x;exact⟨_,e⟩
 | set S n=>obtain⟨o,_,_,_,e,_⟩:=x;exact⟨_,e⟩
 | ins C dx fs=>obtain⟨_,_,_,e,_⟩:=x;exact⟨_,e⟩
 | own y=>exact x
 | xd fs=>obtain⟨_,⟨_,_,_,e,_⟩,_⟩:=x;exact⟨_,e⟩
 | rng lo hi=>obtain⟨_,_,_,e⟩:=x;exact⟨_,e⟩
 | frz ob u=>obtain⟨e,_⟩:=x;exact⟨_,e⟩
 | tbl ps=>exact⟨_,x⟩
 | met f y=>exact⟨_,x⟩
 | ext φ=>exact x.2.1
section
variable{X:Cx}{E:XK}{pins:List (Addr×Obj)}{σ:L2.St}{H:Hp}{s:Shared}{e T:Addr}{cls:Value}{dd:Option Addr}{xs:List Addr}{h1:Heap}{fl:Value}
theorem hok_flown{P:Program}{w:World}{h h':Heap}{tb:Value}(ok:HOk P w H h)(he:H e=some (XO e cls dd))(x:ExAt h' e cls dd tb)(k:∀b u o,H b=some u→b≠e→h.get? b=some o→h'.get? b=some o):HOk P w H h':=fun b u q=>by
 by_cases hb:b=e
 ·subst hb
  rw[he] at q
  cases q
  exact XO.ok x
 ·refine(ok b u q).stay (fun c v hc r=>?_) (fun _ z=>z) fun _ _ z=>z
  rcases hc with z | z
  ·rw[z] at r ⊢;exact k b u v q hb r
  ·refine k c _ v z (fun y=>?_) r
   rw[y,he] at z
   cases z
theorem leave_core{M:Model}{A:Around}{E':Value→Shared→Prop}(L:Leaves X E)(I:Inv X pins σ H s)(fresh:∀b∈xs,(H b=none∨b=e)∧X.s₀.heap.objs.size≤b)(he:e∈xs)(hx:H e=some (XO e cls dd))(hTs:s.heap.objs.size≤T)(hTe:T≠e)
  (x1:ExAt h1 e cls dd (.ref T)) (t1:TbAt h1 T fl) (fl1:Flown (frsE X.stack) xs s.heap h1) (hE:E cls dd H):
  wpAny M A (setFlight (.ref e) none) (fun _ s''=>CX1 X.prog X.w X.outer X.H₀ X.s₀ E (.ref e) s'') E' {s with heap:=h1}:=by
 have hT:s.heap.get? T=none:=Heap.get?_none_of_le hTs
 refine set_flight (s:={s with heap:=h1}) x1 t1 hTe fun h2 x2 t2 k2 th2=>?_
 have neT:∀b o,s.heap.get? b=some o→b≠T:=fun b o q z=>by rw[z,hT] at q;cases q
 have nst:∀b o,X.s₀.heap.get? b=some o→b∉frs X.outer→b∉frsE X.stack:=fun b o q hb z=>by
  rw[L.stk] at z
  have z':b∈(X.env::X.outer).filterMap (·.frame):=z
  rw[List.filterMap_cons,L.fr] at z'
  rcases List.mem_cons.mp z' with y | y
  ·exact absurd (Heap.lt_size q) (by rw[y];exact Nat.not_lt.mpr I.ok.above)
  ·exact hb y
 have nxs:∀b o,X.s₀.heap.get? b=some o→b∉xs:=fun b o q z=>absurd (Heap.lt_size q) (Nat.not_lt.mpr (fresh b z).2)
 have nex:∀b:Addr,b∉X.ex:=fun b z=>by rw[L.ex] at z;cases z
 have T0:X.s₀.heap.objs.size≤T:=Nat.le_trans I.sz hTs
 refine⟨e,T,cls,dd,H,rfl,I.os,I.bare,⟨fun b o q n hb _=>?_,fun b o q n hb _=>?_,fun b o q n _=>I.base.free b o q n (nex b),fun b o q _=>?_,I.base.tups,I.base.frzs,I.base.tbls⟩,?_,⟨(fresh e he).2,T0⟩,hx,⟨?_,hTe⟩,x2,t2,hE⟩
 ·have q1:=I.base.keep b o q n hb (nex b)
  exact k2 b o (neT b o q1) (fl1.keep b o q1 (nst b o q hb) (nxs b o q))
 ·obtain⟨sl,q1⟩:=I.base.slot b o q n hb (nex b)
  have hst:b∈frsE X.stack:=by
   show b∈X.stack.filterMap (·.frame)
   rw[L.stk,List.filterMap_cons,L.fr]
   exact List.mem_cons_of_mem _ hb
  obtain⟨sl',q2⟩:=fl1.slot b _ q1 hst (nxs b o q)
  exact⟨sl',k2 b _ (neT b _ q1) q2⟩
 ·obtain⟨o1,q1⟩:=I.base.there b o q (nex b)
  obtain⟨o2,q2⟩:=fl1.there b o1 q1
  exact th2 b o2 q2
 ·refine hok_flown I.hok hx x2 fun b u o q hb r=>k2 b o (neT b o r) (fl1.keep b o r (fun z=>?_) fun z=>?_)
  ·have:=I.stkFree b z
   rw[q] at this;cases this
  ·rcases(fresh b z).1 with y | y
   ·rw[q] at y;cases y
   ·exact hb y
 ·cases q:H T with
  | none=>rfl
  | some u=>
   obtain⟨o,z⟩:=obj_is (I.hok T u q)
   rw[hT] at z;cases z
theorem pass1(L:Leaves X E):Passes (CX1 X.prog X.w) X E:=by
 intro pins σ H s e s' I ⟨ea,T,cls,dd,H',eq,os,bare,un,hok,⟨f1,f2⟩,g1,⟨g2,g3⟩,x1,t1,hE⟩
 subst eq
 have J:Inv X pins σ H' s':=I.call' (ch:=[]) os un hok bare fun b z=>absurd z (by simp)
 have s0:∀b,s.heap.objs.size≤b→X.s₀.heap.objs.size≤b:=fun b hb=>Nat.le_trans I.sz hb
 refine L.xe _ _ ?_
 unfold leaving
 refine wpAny_bind (note_next (outer:=X.outer) (base:=X.base) (L:=X.env.locals) (by rw[←L.stk];exact J.ok.frames) (by rw[←L.stk];exact J.stack) L.fr x1 t1 g3 fun h1 T1 z1 z2 z3 z4 z5=>?_)
 refine leave_core (xs:=[ea,T]) L J (fun b hb=>?_) (by simp) g1 z1 z2 z3 z4 (by rw[L.stk];exact z5) hE
 rcases List.mem_cons.mp hb with z | z
 ·rw[z];exact⟨.inr rfl,s0 _ f1⟩
 ·rw[List.mem_singleton.mp z];exact⟨.inl g2,s0 _ f2⟩
theorem raise1(L:Leaves X E)(I:Inv X pins σ H s)(hx:H e=some (XO e cls dd))(hn:ExAt s.heap e cls dd .none)(h0:X.s₀.heap.objs.size≤e)(hE:E cls dd H):X.xe (.ref e) s:=by
 refine L.xe _ _ ?_
 unfold leaving
 refine wpAny_bind (note_first (outer:=X.outer) (base:=X.base) (L:=X.env.locals) (by rw[←L.stk];exact I.ok.frames) (by rw[←L.stk];exact I.stack) L.fr hn fun h1 T1 z1 z2 z3 z4 z5=>?_)
 refine leave_core (xs:=[e]) L I (fun b hb=>?_) (by simp) hx z1 z2 z3 z4 (by rw[L.stk];exact z5) hE
 rw[List.mem_singleton.mp hb];exact⟨.inr rfl,h0⟩
def XN(e:Addr)(cls:Value)(dd:Option Addr):HO:= .ext fun h=>ExAt h e cls dd .none
theorem XN.ok{P:Program}{w:World}{H:Hp}{h:Heap}{e:Addr}{cls:Value}{dd:Option Addr}(x:ExAt h e cls dd .none):ObjOk P w H h e (XN e cls dd):=by
 refine⟨x,?_,fun a b y k=>y.at k⟩
 obtain⟨oe,_,h1,_⟩:=x
 exact⟨oe,h1⟩
theorem exc_fld{C:Addr}{f:Str}{y:V}{u:Value}{Q:Unit→Shared→Prop}{E':Value→Shared→Prop}{A:Around}(I:Inv X pins σ H s)(he:H e=some (XN e (.ref C) none))(S:ExcSet X.K C f)(ry:RelV y u)
  (h:∀dx s',H dx=none→Inv X pins σ (upd (upd H dx (.xd [(f,y)])) e (XN e (.ref C) (some dx))) s'→Q () s'):wpAny (model X.prog X.w) A (setAttr (.ref e) f u) Q E' s:=by
 obtain⟨oe,vs,h1,⟨h2,h3⟩,h4,h5⟩:=(show ExAt s.heap e (.ref C) none .none from(I.hok e _ he).1)
 have nde:s.heap.objs.size≠e:=Nat.ne_of_gt (Heap.lt_size h1)
 have fr:H s.heap.objs.size=none:=I.hok.fresh (Nat.le_refl _)
 refine exc_setAttr I.kIn S h1 h2 h3 h4 fun h' tk' a1 a2 a3=>h s.heap.objs.size _ fr (I.un (t':=tk') ⟨fun b o q n _ _=>?_,fun b o q n _ _=>?_,fun b o q n _=>?_,fun b o q _=>?_,fun b xs q=>?_,fun b o u q=>?_,fun b ps q=>?_⟩ fun b w' q=>?_)
 ·exact a3 b o (fun z=>by rw[z,he] at n;cases n) q
 ·exact⟨o.slots,a3 b o (fun z=>by rw[z,he] at n;cases n) q⟩
 ·rw[upd_ne (fun z=>by rw[z,he] at n;cases n),upd_ne (Nat.ne_of_lt (Heap.lt_size q))];exact n
 ·by_cases hb:b=e
  ·exact⟨_,by rw[hb];exact a1⟩
  ·exact⟨o,a3 b o hb q⟩
 ·rw[upd_ne (fun z=>by rw[z,he] at q;cases q),upd_ne (fun z=>by rw[z,fr] at q;cases q)];exact q
 ·rw[upd_ne (fun z=>by rw[z,he] at q;cases q),upd_ne (fun z=>by rw[z,fr] at q;cases q)];exact q
 ·exact⟨#[],by rw[upd_ne (fun z=>by rw[z,he] at q;cases q),upd_ne (fun z=>by rw[z,fr] at q;cases q),q];simp⟩
 ·by_cases hb:b=e
  ·subst hb
   rw[upd_same] at q
   cases q
   exact XN.ok ⟨_,vs,a1,⟨h2,rfl⟩,h4,h5⟩
  ·rw[upd_ne hb] at q
   by_cases hd:b=s.heap.objs.size
   ·subst hd
    rw[upd_same] at q
    cases q
    refine⟨_,a2,fun g=>?_⟩
    by_cases hg:g=f
    ·subst hg
     simp only[List.lookup_cons,beq_self_eq_true,if_true]
     exact ry
    ·have hb:(g==f)=false:=by simpa using hg
     simp only[List.lookup_cons,hb,List.lookup_nil,if_neg hg]
     trivial
   ·rw[upd_ne hd] at q
    refine(I.hok b w' q).stay (fun c v hc r=>a3 c v ?_ r) (fun c z=>?_) fun c xs z=>?_
    ·intro z
     rcases hc with y | y
     ·exact hb (y.symm.trans z)
     ·rw[z,he] at y;cases y
    ·rw[upd_ne (fun y=>by rw[y,he] at z;cases z),upd_ne (fun y=>by rw[y,fr] at z;cases z)];exact z
    ·rw[upd_ne (fun y=>by rw[y,he] at z;cases z),upd_ne (fun y=>by rw[y,fr] at z;cases z)];exact z
end
section
variable{X:Cx}{pos pos':Pos}{o value:Expr}{f:Str}{ta tv:TE}
def sExc(K:PySem.W.Frag)(ta tv:TE)(f:Str):TS:=fun D σ H=>tv σ H fun y H1=>ta σ H1 fun x H2=>∃e C,x= .ref e∧H2 e=some (XN e (.ref C) none)∧ExcSet K C f∧∀dx,H2 dx=none→D.nx σ (upd (upd H2 dx (.xd [(f,y)])) e (XN e (.ref C) (some dx)))
theorem ps_exc(ha:PE X o ta)(hv:PE X value tv)(hs:swapsWith value (some (.Attribute o f pos')) pos.line X.env=pure false):PS X (.Assign [.Attribute o f pos'] value pos) (sExc X.K ta tv f):=by
 intro pins s σ H D I h
 refine plainObj_wpAny_Assign_Attribute (thn (hv pins s σ H _ I h) fun u s1 ⟨y,H1,I1,ry,q⟩=>thn (ha pins s1 σ H1 _ I1 q) fun ov s2 ⟨x,H2,I2,rx,e,C,ex,ee,S,q2⟩=>?_) hs
 subst ex
 obtain rfl:ov=Value.ref e:=rx
 exact exc_fld I2 ee S ry fun dx s3 hd I3=>⟨σ,_,I3,q2 dx hd⟩
end
structure ExcMk(K:PySem.W.Frag)(C f:Addr):Prop where
 cls:∃nm q N bs bm hdct sn sub ab col dd k0 k1 k2 k3 k5,K.lookup C=some (excClassObj nm q C N bs bm hdct sn sub ab col dd k0 k1 k2 k3 k5 "ValueError.__new__")∧(Value.ref C::bm).contains (.type "ValueError")=true∧
  (Value.ref C::bm).contains (.type "AttributeError")=false∧(Value.ref C::bm).contains (.type "NameError")=false∧(Value.ref C::bm).contains (.type "BaseException")=true
 init:PySem.W.findIn K (.ref C) "__init__"=some (some (.ref f))
 fn:PySem.W.isFn K (.ref f)=true
 kp:PySem.W.keepIn K (.ref C)=true
theorem ExcMk.at{K:PySem.W.Frag}{C f:Addr}(M:ExcMk K C f){h:Heap}(k:K.In h):∃nm q N bs bm hdct sn sub ab col dd k0 k1 k2 k3 k5,ExcCls h C nm q N bs bm hdct sn sub ab col dd k0 k1 k2 k3 k5 "ValueError" "ValueError.__new__":=by
 obtain⟨nm,q,N,bs,bm,hdct,sn,sub,ab,col,dd,k0,k1,k2,k3,k5,h1,h2,h3,h4,h5⟩:=M.cls
 exact⟨nm,q,N,bs,bm,hdct,sn,sub,ab,col,dd,k0,k1,k2,k3,k5,k _ _ h1,h2,h3,h4,h5⟩
section
variable{X:Cx}{k:Nat}{f C:Addr}{fd:FuncData}{ps:List Str}{sp:Sp}{dvs:List V}{ds:List Value}{pins:List (Addr×Obj)}{σ:L2.St}{H:Hp}{s:Shared}{us:List Value}{vs:List V}
theorem exc_make{Q:Addr→Hp→Prop}{E':Value→Shared→Prop}(M:ExcMk X.K C f)(F:FnOk X.prog X.w X.K X.mg X.base CX0 k f fd ps sp)(hr:Room (k+1) X.A)(hb:Binds X.K fd ps ds)(hd:Vals dvs ds)(I:Inv X pins σ H s)(r:Vals vs us)(hz:us.length≤sizeLine)
  (h:∀e,H e=none→sp (.ref e::(vs++dvs)) (upd H e (XN e (.ref C) none)) (fun v H2=>v= .non∧Q e H2) E0):
  wpAny (model X.prog X.w) X.A (call (.ref C) us) (fun u s'=>∃e H',u= .ref e∧Inv X pins σ H' s'∧X.s₀.heap.objs.size≤e∧X.K.In s'.heap∧Q e H') E' s:=by
 obtain⟨nm,q,N,bs,bm,hdct,sn,sub,ab,col,dd,k0,k1,k2,k3,k5,cl⟩:=M.at I.kIn
 have fr:H (s.heap.objs.size+1)=none:=I.hok.fresh (Nat.le_succ _)
 have hq:=h (s.heap.objs.size+1) fr
 have hget:((s.heap.push (noTup us)).push (exNew C s.heap.objs.size)).get? (s.heap.objs.size+1)=some (exNew C s.heap.objs.size):=by heap_get
 have I2:Inv X pins σ (upd H (s.heap.objs.size+1) (XN (s.heap.objs.size+1) (.ref C) none)) {s with heap:=(s.heap.push (noTup us)).push (exNew C s.heap.objs.size)}:=
  I.laid (a:=s.heap.objs.size+1) (t':=s.toks) (fun b u e=>Heap.get?_push_of_some _ (Heap.get?_push_of_some _ e)) (Nat.le_succ _) (XN.ok ⟨_,_,hget,⟨rfl,rfl⟩,rfl,rfl⟩)
 have r2:Vals (V.ref (s.heap.objs.size+1)::(vs++dvs)) (Value.ref (s.heap.objs.size+1)::(us++ds)):= .cons rfl (r.append hd)
 have hl:(Value.ref (s.heap.objs.size+1)::us++ds).length=ps.length:=by
  have e:=r2.length
  rw[F.len _ _ _ _ hq] at e
  exact e.symm
 have s0:X.s₀.heap.objs.size≤s.heap.objs.size+1:=Nat.le_trans I.sz (Nat.le_succ _)
 refine wpAny_call ?_
 have hi:=PySem.W.looks_findIn (M:=model X.prog X.w) I.kIn M.init
 have hbd:=fun self=>PySem.W.bind_fn (M:=model X.prog X.w) I.kIn self (beq_iff_eq.mp M.fn)
 obtain⟨hh,g,d,t,os⟩:=s
 refine exc_call PySem.F.excBase_ValueError cl hi hbd (codeAny_mono (F.run _ X.stack _ _ ⟨Value.ref (hh.objs.size+1)::us,[]⟩ (Value.ref (hh.objs.size+1)::(us++ds)) _ _ E0 (hr.make C us []) (I2.env0.make C us []) (hb _ (Value.ref (hh.objs.size+1)::us) I2.kIn hl) r2 hq) fun rr s' hq'=>?_) hz
 cases rr with
 | error e=>exact False.elim hq'
 | ok fl=>
  cases fl with
  | ret u=>
   obtain⟨v,H',I3,rv,ev,q3⟩:=I2.after hq'
   subst ev
   exact⟨rv,hh.objs.size+1,H',rfl,I3,s0,I3.kIn,q3⟩
  | next=>exact False.elim hq'
  | brk=>exact False.elim hq'
  | cont=>exact False.elim hq'
theorem raise_stmt{M:Model}{A:Around}{E:Value→Shared→Prop}{env:Env}{s:Shared}{x:Sem Value}{Q:Flow→Shared→Prop}(hh:A.handled=none)
  (h:wpAny M A x (fun v s1=>∃(e:Addr) (nm q:Str) (N:Addr) (bs bm:List Value) (hdct:Bool) (sn:List Str) (sub:List Value) (ab:Bool) (col:Option Bool) (dd:Option Addr) (k0 k1 k2 k3 k5:Option Value) (dx:Option Addr),
   v= .ref e∧ExcCls s1.heap C nm q N bs bm hdct sn sub ab col dd k0 k1 k2 k3 k5 "ValueError" "ValueError.__new__"∧ExAt s1.heap e (.ref C) dx .none∧E (.ref e) s1) E s):
  wpAny M A (raiseStmt env (some x) none) Q E s:=by
 unfold raiseStmt
 refine wpAny_bind (wpAny_mono h (fun v s1 h1=>?_) fun _ _ z=>z)
 obtain⟨e,nm,q,N,bs,bm,hdct,sn,sub,ab,col,dd,k0,k1,k2,k3,k5,dx,rfl,cl,⟨oe,vs,he,⟨hc,hdd⟩,hd,h1⟩,hE⟩:=h1
 obtain⟨hC,_,_,_,hcB⟩:=cl
 obtain⟨hp,g,d,tk,os⟩:=s1
 obtain⟨c,dc,dt,sl⟩:=oe
 dsimp only at hc hdd hd
 subst hc hdd hd
 repeat (first | with_reducible refine wpAny_loadPart_at he ?_ | with_reducible refine wpAny_loadPart_at hC ?_ | (with_reducible refine wpAny_isSubtype_exc hC ?_;rw[hcB]) | wp_step)
 rw[h1]
 refine wpAny_pure ?_
 rw[if_neg (by decide)]
 exact wpAny_pure (wpAny_raiseNew_none hh hE)
def tRaise(C:Addr)(sp:Sp)(dvs:List V)(E:XK)(t:TA):TS:=fun _ σ H=>t σ H fun vs H1=>vs.length≤8∧∀e,H1 e=none→sp (.ref e::(vs++dvs)) (upd H1 e (XN e (.ref C) none)) (fun v H2=>v= .non∧∃dd,H2 e=some (XN e (.ref C) dd)∧E (.ref C) dd (upd H2 e (XO e (.ref C) dd))) E0
theorem raise_go{E:XK}{vs:List V}(L:Leaves X E)(M:ExcMk X.K C f)(F:FnOk X.prog X.w X.K X.mg X.base CX0 k f fd ps sp)(hr:Room (k+1) X.A)(hb:Binds X.K fd ps ds)(hd:Vals dvs ds)(I:Inv X pins σ H s)(r:Vals vs us)(hz:vs.length≤8)
  (h:∀e,H e=none→sp (.ref e::(vs++dvs)) (upd H e (XN e (.ref C) none)) (fun v H2=>v= .non∧∃dd,H2 e=some (XN e (.ref C) dd)∧E (.ref C) dd (upd H2 e (XO e (.ref C) dd))) E0):
  wpAny (model X.prog X.w) X.A (call (.ref C) us) (fun v s1=>∃(e:Addr) (nm q:Str) (N:Addr) (bs bm:List Value) (hdct:Bool) (sn:List Str) (sub:List Value) (ab:Bool) (col:Option Bool) (dd:Option Addr) (k0 k1 k2 k3 k5:Option Value) (dx:Option Addr),
   v= .ref e∧ExcCls s1.heap C nm q N bs bm hdct sn sub ab col dd k0 k1 k2 k3 k5 "ValueError" "ValueError.__new__"∧ExAt s1.heap e (.ref C) dx .none∧X.xe (.ref e) s1) X.xe s:=by
 refine thn (exc_make (Q:=fun e H2=>∃dd,H2 e=some (XN e (.ref C) dd)∧E (.ref C) dd (upd H2 e (XO e (.ref C) dd))) M F hr hb hd I r (by rw[←r.length];exact Nat.le_trans hz (by decide)) h) fun v s1 ⟨e,H',ev,I',s0,kin,dd',he,hE⟩=>?_
 obtain⟨nm,q,N,bs,bm,hdct,sn,sub,ab,col,dd,k0,k1,k2,k3,k5,cl⟩:=M.at kin
 have x:ExAt s1.heap e (.ref C) dd' .none:=(I'.hok e _ he).1
 have I2:Inv X pins σ (upd H' e (XO e (.ref C) dd')) {s1 with heap:=s1.heap,toks:=s1.toks}:=
  I'.write (x:=e) (e:=e) (by rw[he];exact True.intro) (.inl rfl) (fun _ _ _ z=>z) (by obtain⟨oe,_,z,_⟩:=x;exact⟨oe,z⟩) (XO.ok x)
 exact⟨e,nm,q,N,bs,bm,hdct,sn,sub,ab,col,dd,k0,k1,k2,k3,k5,dd',ev,cl,x,raise1 L I2 upd_same x s0 hE⟩
theorem ps_raise0{E:XK}{x:Str}{np cpos pos:Pos}(L:Leaves X E)(hc:X.calm=true)(M:ExcMk X.K C f)(F:FnOk X.prog X.w X.K X.mg X.base CX0 k f fd ps sp)(hr:Room (k+1) X.A)(hb:Binds X.K fd ps ds)(hd:Vals dvs ds)(hg:Gl X x)(hm:X.mg x=some (.ref C))
  (hdb:(x==("__debug__":Str))=false:=by decide):PS X (.Raise (some (.Call (.Name x np) [] [] cpos)) none pos) (tRaise C sp dvs E tNil):=by
 intro pins s σ H D I h
 obtain⟨hz,h⟩:=h
 rw[arm_exec_Raise]
 simp only[evalOpt,Option.map]
 refine wpAny_bind (wpAny_standAt (raise_stmt (C:=C) (I.ok.hd hc) ?_))
 refine wpAny_bind (wpAny_mono (Q:=fun v s1=>∃(e:Addr) (nm q:Str) (N:Addr) (bs bm:List Value) (hdct:Bool) (sn:List Str) (sub:List Value) (ab:Bool) (col:Option Bool) (dd:Option Addr) (k0 k1 k2 k3 k5:Option Value) (dx:Option Addr),
   v= .ref e∧ExcCls s1.heap C nm q N bs bm hdct sn sub ab col dd k0 k1 k2 k3 k5 "ValueError" "ValueError.__new__"∧ExAt s1.heap e (.ref C) dx .none∧X.xe (.ref e) s1) ?_ (fun v s1 z=>wpAny_bind (wpAny_standAt (wpAny_pure z))) fun _ _ z=>z)
 refine wpAny_Call_Name_kw (ld_glob I hg hm ?_ hdb)
 exact PySem.W.callWith_K0 I.kIn M.kp (raise_go (us:=[]) L M F hr hb hd I .nil hz h)
end
end L3
namespace L3
open PySem PySem.W PySem.Calls PyProof.Rows Builtin Builtin.ObjectAttr
section
variable{prog:Program}{w:World}{A:Around}{E:Value→Shared→Prop}{K:Frag}{C D e:Addr}{s:Shared}
structure ExcIs(K:Frag)(C:Addr):Prop where
 cls:∃cd,clsIn K C=some cd∧cd.hasDict=true
 ga:findIn K (.ref C) "__getattribute__"=some (some (.builtin "BaseException.__getattribute__"))
 gh:findIn K (.ref C) "__getattr__"=some none
 base:mroIn K C (.type "BaseException")=some true
 own:findIn K (.ref C) "__class__"=some (some (.builtin "object.__class__"))
 ds:specialIn K (.builtin "object.__class__") "__get__"=some (some (.builtin "getset_descriptor.__get__"))
 tk:takesIn K (.builtin "object.__class__")=some true
 obj:mroIn K C (.type "object")=some true
theorem exc_class{oe:Obj}{od:Obj}{Q:Option Value→Shared→Prop}(X:K.In s.heap)(S:ExcIs K C)(J:InstAt s.heap e oe C (some od))(h:Q (some (.ref C)) {s with toks:=s.toks+1}):
  wpAny (model prog w) A (getAttr? (.ref e) "__class__") Q E s:=by
 obtain⟨⟨cd,hcd,hdict⟩,hga,hgh,hbase,hown,hds,htk,hobj⟩:=S
 obtain⟨hp,g,d,t,os⟩:=s
 have hf:findObj K C (some od) "__class__"=some (.bind (.builtin "getset_descriptor.__get__") (.builtin "object.__class__")):=findObj_data (by rw[hcd];rfl) hown hds htk
 have L0:=J.type (M:=model prog w)
 have L1:=looks_findIn (M:=model prog w) X hga
 have L2:=looks_findIn (M:=model prog w) X hgh
 have L3':=looks_find (M:=model prog w) X J hf
 have sub:Looks (model prog w) hp (isInstance (.ref e) (.type "BaseException")) true:=L0.andThen (looks_mroIn X hbase)
 unfold getAttr? getAttrBy? getAttrBy
 refine wpAny_bind (wpAny_mkText (wpAny_bind (wpAny_attempt (wpAny_holding (wpAny_bind (L0.at (wpAny_bind (L1.at ?_))))))))
 show wpAny _ _ (getAttrByItsOwn _ _ _ _ _ _) _ _ _
 unfold getAttrByItsOwn
 refine wpAny_bind (L2.at (wpAny_bind (wpAny_attempt (wpAny_holding ?_))))
 unfold callGetattribute
 rw[if_neg (by decide)]
 unfold boundAndCalled
 rw[bg_bind]
 refine wpAny_bind (wpAny_pure (wpAny_call ?_))
 refine codeAny_call_builtin bg_plain F.entry_bexc_ga (@check_slot (model prog w) _ _ _ "BaseException.__getattribute__" "BaseException" "__getattribute__" (.ref e) [.str "__class__" t] [] _ bg_kind bg_split sub (bg_args (.ref e) (.str "__class__" t)) ?_)
 show wpAny _ _ (typeOf (.ref e) >>=fun tp=>find (.ref e) tp "__class__" >>=_) _ _ _
 refine wpAny_bind (L0.at (wpAny_bind (L3'.at ?_)))
 have hcall:=class_get (prog:=prog) (w:=w) (A:=A.in1) (s:=⟨hp,g,d,t+1,os⟩) (tp:= .ref C) (R:=fun r s'=>r= .ok (.ret (.ref C))∧s'=⟨hp,g,d,t+1,os⟩) X J hobj ⟨rfl,rfl⟩
 unfold bindTo
 refine wpAny_bind (wpAny_holding (wpAny_call (codeAny_mono hcall fun r s' z=>?_)))
 obtain⟨rfl,rfl⟩:=z
 refine wpAny_pure ?_
 show wpAny _ _ (handedOut (.ref C)) _ _ _
 exact handed_on rfl (wpAny_pure h)
end
end L3
namespace L3
open PySem PySem.Spec PyProof.Rows L2
section
variable{K:PySem.W.Frag}{C e:Addr}
theorem kitx_exc{oe od:Obj}(S:ExcIs K C):PySem.W.KitX K (.ref e) (.ref C) (fun h=>PySem.W.InstAt h e oe C (some od)) where
 ty:=fun _ _ _ I=>I.type
 it:=fun _ _ X _=>by
  obtain⟨cd,hcd,_⟩:=S.cls
  unfold PySem.W.clsIn at hcd
  split at hcd
  ·rename_i ho
   intro A' Q' E' s' k q
   unfold isType loadHead
   exact wpAny_bind (wpAny_loadPart (k _ _ (X _ _ ho)) (wpAny_pure q))
  ·cases hcd
 ne:=fun h tp dd its n sl X htp=>by
  obtain⟨cd,hcd,_⟩:=S.cls
  refine Bool.eq_false_iff.mpr fun q=>?_
  have z:C=tp:=Value.ref.inj (beq_iff_eq.mp q)
  subst z
  unfold PySem.W.clsIn at hcd
  split at hcd
  ·rename_i ho
   have y:=(X _ _ ho).symm.trans htp
   cases y
  ·cases hcd
 ca:=fun X I k=>exc_class X S I k
variable{X:Cx}{pins:List (Addr×Obj)}{σ:L2.St}{H:Hp}{s:Shared}{dx:Addr}{fs:List (Str×V)}
theorem exc_inst(I:Inv X pins σ H s)(he:H e=some (XO e (.ref C) (some dx)))(hd:H dx=some (.xd fs)):∃(oe od:Obj) (mA:Str→Option Value),PySem.W.InstAt s.heap e oe C (some od)∧(∀name,PySem.W.lookIn name od=some (mA name))∧∀f,RelO (fs.lookup f) (mA f):=by
 obtain⟨tb,oe,vs,h1,⟨h2,h3⟩,h4,_⟩:=XO.at (I.hok e _ he)
 obtain⟨mA,hn,hr⟩:=(show ObjOk X.prog X.w H s.heap dx (.xd fs) from I.hok dx _ hd)
 obtain⟨od,q1,q2⟩:=lookIn_ns hn
 refine⟨oe,od,mA,⟨h1,h2,by unfold PySem.W.notCls;rw[h4],by rw[h3];exact q1⟩,q2,hr⟩
def rIsX(K:PySem.W.Frag):List V→Hp→VK→Prop:=fun xs H Q=>∃e C dx fs c cv b,xs=[.ref e,c]∧H e=some (XO e (.ref C) (some dx))∧H dx=some (.xd fs)∧ExcIs K C∧(∀u,RelV c u→u=cv)∧PySem.W.kitOne K (.ref C) cv=some b∧Q (.bl b) H
theorem call_isX:CallR X (.builtin "isinstance") (rIsX X.K):=by
 intro pins s σ H xs us Q I r h
 obtain⟨e,C,dx,fs,c,cv,b,rfl,he,hd,S,hc,k,q⟩:=h
 obtain⟨u,v,rfl,ru,rv⟩:=vals2 r
 obtain rfl:u=Value.ref e:=ru
 cases hc v rv
 obtain⟨oe,od,mA,J,_⟩:=exc_inst I he hd
 exact PySem.W.kia_one (kitx_exc S) I.kIn J k (fun z=>nomatch z) fun tk=>⟨.bl b,H,I.tok tk,rfl,q⟩
end
def XP(X:Cx)(pins:List (Addr×Obj))(σ:L2.St)(E:XK)(x:Value)(s':Shared):Prop:=∃(e T:Addr) (cls:Value) (dd:Option Addr) (H':Hp),x= .ref e∧Inv X pins σ H' s'∧FpOk X pins H' T∧T≠e∧H' e=some (XO e cls dd)∧
 ExAt s'.heap e cls dd (.ref T)∧TbAt s'.heap T .none∧E cls dd H'
abbrev TEX:=L2.St→Hp→VK→XK→Prop
abbrev TSX:=Ends→XK→L2.St→Hp→Prop
def PEX(X:Cx)(e:Expr)(t:TEX):Prop:=
 ∀(pins:List (Addr×Obj)) (s:Shared) (σ:L2.St) (H:Hp) (Q:VK) (E:XK),Inv X pins σ H s→t σ H Q E→wpAny (model X.prog X.w) X.A (eval e X.env) (EP X pins σ Q) (XP X pins σ E) s
def PSX(X:Cx)(st:List Stmt)(t:TSX):Prop:=
 ∀(pins:List (Addr×Obj)) (s:Shared) (σ:L2.St) (H:Hp) (D:Ends) (E:XK),Inv X pins σ H s→t D E σ H→wpAny (model X.prog X.w) X.A (execs st X.env) (SP X pins D) (XP X pins σ E) s
section
variable{X:Cx}{k:Nat}{f:Addr}{fd:FuncData}{ps:List Str}{sp:Sp}{dvs:List V}{ds:List Value}{x:Str}{p pos:Pos}{e:Expr}{es:List Expr}{t:TA}
theorem xp_of{pins:List (Addr×Obj)}{σ:L2.St}{H:Hp}{s s':Shared}{E:XK}{x:Value}(I:Inv X pins σ H s)(h:CX1 X.prog X.w X.stack H s E x s'):XP X pins σ E x s':=by
 obtain⟨ea,T,cls,dd,H',eq,os,bare,un,hok,⟨f1,f2⟩,g1,⟨g2,g3⟩,x1,t1,hE⟩:=h
 have J:Inv X pins σ H' s':=I.call' (ch:=[]) os un hok bare fun b z=>absurd z (by simp)
 exact⟨ea,T,cls,dd,H',eq,J,I.fpOk f2 g2,g3,g1,x1,t1,hE⟩
def tCallX(sp:Sp)(dvs:List V)(t:TA):TEX:=fun σ H Q E=>t σ H fun vs H1=>sp (vs++dvs) H1 Q E
theorem pex_call(F:FnOk X.prog X.w X.K X.mg X.base (CX1 X.prog X.w) k f fd ps sp)(hr:Room k X.A)(hg:Gl X x)(hm:X.mg x=some (.ref f))(hk:PySem.W.keepIn X.K (.ref f)=true)(hb:Binds X.K fd ps ds)(hd:Vals dvs ds)
  (ha:PA X.nox (e::es) t) (hdb:(x==("__debug__":Str))=false:=by decide) (he:starEach (e::es) X.env=(false,eval e X.env)::starEach es X.env:=by rfl) (hpl:(backTo pos (starEach es X.env)).any (·.1)=false:=by rfl):
  PEX X (.Call (.Name x p) (e::es) [] pos) (tCallX sp dvs t):=by
 intro pins s σ H Q E I h
 refine wpAny_Call_Name_kw (ld_glob I hg hm ?_ hdb)
 refine PySem.W.callWith_K (h₀:=X.base) I.ok.mod.kin hk (wpAny_mono (ha pos pins s σ H _ (I.wish _) h) (fun us s1 ⟨vs,H1,I1,r,q⟩=>?_) fun _ _ z=>z.elim) he hpl
 have I2:Inv X pins σ H1 s1:=I1.unwish
 refine⟨I2.kIn,?_⟩
 have r2:Vals (vs++dvs) (us++ds):=r.append hd
 have hl:(us++ds).length=ps.length:=by rw[←r2.length];exact F.len _ _ _ _ q
 refine wpAny_call (codeAny_mono (F.run X.A X.stack s1 H1 ⟨us,[]⟩ (us++ds) (vs++dvs) Q E hr I2.env0 (hb s1 us I2.kIn hl) r2 q) fun rr s' hq=>?_)
 cases rr with
 | error z=>exact xp_of I2 hq
 | ok fl=>
  cases fl with
  | ret u=>exact I2.after hq
  | next=>exact False.elim hq
  | brk=>exact False.elim hq
  | cont=>exact False.elim hq
variable{te:TEX}
def tDropX(te:TEX):TSX:=fun D E σ H=>te σ H (fun _ H1=>D.nx σ H1) E
theorem psx_expr(he:PEX X e te)(hs:swapsWith e none pos.line X.env=pure false:=by rfl):PSX X [.Expr e pos] (tDropX te):=by
 intro pins s σ H D E I h
 refine wpAny_execs_cons (wpAny_Expr_any (thn (he pins s σ H _ E I h) fun u s1 h1=>?_) I.quiet hs)
 obtain⟨v,H1,I1,r,q⟩:=h1
 exact wpAny_execs_nil ⟨σ,H1,I1,q⟩
def tRetX(te:TEX):TSX:=fun D E σ H=>te σ H D.rt E
theorem psx_ret(he:PEX X e te):PSX X [.Return (some e) pos] (tRetX te):=by
 intro pins s σ H D E I h
 refine wpAny_execs_cons (wpAny_Return_some (thn (he pins s σ H _ E I h) fun u s1 h1=>?_))
 obtain⟨v,H1,I1,r,q⟩:=h1
 exact⟨v,σ,H1,I1,r,q⟩
def tSetX(te:TEX)(i:Nat):TSX:=fun D E σ H=>te σ H (fun y H1=>D.nx (σ.set i (some y)) H1) E
theorem psx_set{i:Nat}{x:Str}{pos':Pos}(hN:X.N.Nodup)(hi:X.N[i]?=some x)(hx:Loc X.env.scope x)(he:PEX X e te)(hs:swapsWith e (some (.Name x pos')) pos.line X.env=pure false:=by rfl)(hf:X.fn x=true∨X.env.scope.names.lookup x=some .local:=by first | exact .inl rfl | exact .inr rfl | assumption):
  PSX X [.Assign [.Name x pos'] e pos] (tSetX te i):=by
 intro pins s σ H D E I h
 refine wpAny_execs_cons (wpAny_Assign_Name (thn (he pins s σ H _ E I h) fun v s1 h1=>?_) hs)
 obtain⟨y,H1,I1,r1,q1⟩:=h1
 exact store_ok I1 hN hi hx r1 (fun s2 I2=>wpAny_execs_nil ⟨_,H1,I2,q1⟩) hf
end
def Held(X:Cx)(e:Addr):Cx:={X with A:=X.A.mark (some (.ref e)),calm:=false,xe:=fun _ _=>False}
section
variable{X:Cx}{pins:List (Addr×Obj)}{σ:L2.St}{H:Hp}{s:Shared}{e:Addr}
theorem held_ok(ok:X.Ok)(e:Addr):(Held X e).Ok:=
 ⟨ok.mod,ok.kind,ok.glob,ok.blt,ok.above,ok.inj,ok.has,ok.cab,(fun z=>nomatch z),ok.frames,ok.stk,ok.exf,ok.bs,ok.bsz,ok.noex,ok.exfs,ok.funs,ok.frf⟩
theorem held_in(I:Inv X pins σ H s)(e:Addr):Inv (Held X e) pins σ H s:=⟨held_ok I.ok e,I.os,I.bare,I.base,I.loc,I.cell,I.free,I.freeC,I.pin,I.hok,I.len⟩
theorem held_out(ok:X.Ok)(I:Inv (Held X e) pins σ H s):Inv X pins σ H s:=⟨ok,I.os,I.bare,I.base,I.loc,I.cell,I.free,I.freeC,I.pin,I.hok,I.len⟩
theorem noted_in{T T1:Addr}{cls:Value}{dd:Option Addr}{h1:Heap}(I:Inv X pins σ H s)(ft:FpOk X pins H T)(he:H e=some (XO e cls dd))(x1:ExAt h1 e cls dd (.ref T1))(fl:Flown (frsE X.stack) [e,T] s.heap h1):
  Inv X pins σ H {s with heap:=h1}:=by
 obtain⟨f0,f1,f2,f3,f4,f5⟩:=ft
 have ne:∀b,H b=none→b≠e:=fun b n z=>by rw[z,he] at n;cases n
 have hk:∀b o,b∉frsE X.stack→b≠T→b≠e→s.heap.get? b=some o→h1.get? b=some o:=fun b o z1 z2 z3 q=>fl.keep b o q z1 (by simp[z2,z3])
 have hs:∀b o,b≠T→b≠e→s.heap.get? b=some o→∃sl,h1.get? b=some {o with slots:=sl}:=fun b o z2 z3 q=>by
  by_cases z1:b∈frsE X.stack
  ·exact fl.slot b o q z1 (by simp[z2,z3])
  ·exact⟨o.slots,hk b o z1 z2 z3 q⟩
 refine I.step (g':=s.gens) (t':=s.toks) (d':=s.drawn) (ch:=[T]) (fun b hb=>?_) (fun b o z1 z2 z3 q n=>hk b o (fun z=>?_) (by simpa using z3) (ne b n) q) (fun b o _ _ z3 q n=>hs b o (by simpa using z3) (ne b n) q) (fun _ _ _ _ n=>n)
  (fun b o _ q=>fl.there b o q) (fun _ _ q=>q) (fun _ _ _ q=>q) (fun _ ps q=>⟨#[],by rw[q];simp⟩) (fun m hm=>?_) ?_ I.bare
 ·rw[List.mem_singleton.mp hb]
  exact⟨f3,f1,f4,f5⟩
 ·rcases List.mem_cons.mp (I.stkSub b z) with y | y
  ·exact z1 y
  ·exact z2 y
 ·obtain⟨o,es,ep,ho,r⟩:=hm
  obtain⟨sl,q⟩:=hs _ o (Ne.symm f1) (ne _ I.free) ho
  exact⟨_,es,ep,q,r⟩
 ·refine hok_flown I.hok he x1 fun b u o q hb r=>hk b o (fun z=>?_) (fun z=>?_) hb r
  ·rw[I.stkFree b z] at q;cases q
  ·rw[z,f0] at q;cases q
theorem flown_in{T1:Addr}{h2:Heap}(I:Inv X pins σ H s)(ft:FpOk X pins H T1)(k:∀b o,b≠T1→s.heap.get? b=some o→h2.get? b=some o):Inv X pins σ H {s with heap:=h2}:=by
 obtain⟨f0,f1,f2,f3,f4,f5⟩:=ft
 exact I.turned (t':=s.toks) k f0 f1 f3 f4 f5
end
structure Catch(K:PySem.W.Frag)(C D:Addr)(b:Bool):Prop where
 ty:PySem.W.typeIn K (.ref D)=some (.type "type")
 cls:(PySem.W.clsIn K D).isSome=true
 exc:PySem.W.mroIn K D (.type "BaseException")=some true
 sub:PySem.W.mroIn K C (.ref D)=some b
section
open PySem.W
theorem exc_matches{prog:Program}{w:World}{A:Around}{E:Value→Shared→Prop}{K:Frag}{C D e:Addr}{b:Bool}{oe:Obj}{s:Shared}{Q:Bool→Shared→Prop}(X:K.In s.heap)(S:Catch K C D b)(he:s.heap.get? e=some oe)(hc:oe.cls= .ref C)(h:Q b s):
  wpAny (model prog w) A (excMatches (.ref e) (.ref D)) Q E s:=by
 obtain⟨ht,hD,hB,hs⟩:=S
 obtain⟨hp,g,d,t,os⟩:=s
 have L1:Looks (model prog w) hp (typeOf (.ref D)) (.type "type"):=looks_typeIn X ht
 have L2:Looks (model prog w) hp (isType (.ref D)) true:=by
  unfold clsIn at hD
  split at hD
  ·rename_i ho
   intro A' Q' E' s' k q
   unfold isType loadHead
   exact wpAny_bind (wpAny_loadPart (k _ _ (X _ _ ho)) (wpAny_pure q))
  ·cases hD
 have L3:Looks (model prog w) hp (isSubtype (.ref D) (.type "BaseException")) true:=looks_mroIn X hB
 have L4:Looks (model prog w) hp (typeOf (.ref e)) (.ref C):=by rw[←hc];exact(Looks.ld he).andThen .now
 have L5:Looks (model prog w) hp (isSubtype (.ref C) (.ref D)) b:=looks_mroIn X hs
 unfold excMatches isInstance
 refine wpAny_bind (wpAny_bind (L1.at ?_))
 rw[tc_notTuple]
 refine wpAny_pure ?_
 simp only[Bool.false_eq_true,if_false]
 refine wpAny_bind (wpAny_pure ?_)
 rw[List.forIn_cons]
 refine wpAny_bind (wpAny_bind ?_)
 unfold isExcClass
 refine wpAny_bind (wpAny_bind (L2.at ?_))
 simp only[if_true]
 refine L3.at ?_
 simp only[Bool.not_true,Bool.false_eq_true,if_false]
 refine wpAny_pure ?_
 show wpAny _ _ (pure PUnit.unit) _ _ _
 refine wpAny_pure ?_
 refine wpAny_bind (L4.at (wpAny_bind ?_))
 rw[List.forIn_cons]
 refine wpAny_bind (wpAny_bind (L5.at ?_))
 cases b with
 | true=>
  simp only[if_true]
  exact wpAny_pure (wpAny_pure (wpAny_pure h))
 | false=>
  simp only[Bool.false_eq_true,if_false]
  refine wpAny_pure ?_
  show wpAny _ _ (pure (none,PUnit.unit)) _ _ _
  exact wpAny_pure (wpAny_pure h)
end
section
variable{X:Cx}{body suite:List Stmt}{b₀:Stmt}{x n:Str}{np hpos pos:Pos}{D:Addr}{i:Nat}{tb:TSX}{ts:TS}
theorem fun_ok1{P:Program}{w:World}{K:PySem.W.Frag}{mg:Str→Option Value}{base:Heap}{x qual:Str}{st:Stmt}{f:Addr}{fd:FuncData}{N ps:List Str}{k:Nat}{sp:Sp}(F:Fun K x qual st f fd)(S:FnScope N ps (defScope st))(len:∀vs H Q E,sp vs H Q E→vs.length=ps.length)
  (hbody:∀(cdv:Value) (A:Around) (outer:List Env) (s:Shared) (H:Hp) (vs:List V) (Q:VK) (E:XK),Room k (A.deeper (envOfC qual (defScope st) s.heap.objs.size f cdv))→sp vs H Q E→
   ∃t,PSs (cxOf (CX1 P w) P w K mg base N qual (defScope st) f cdv A outer s H E) (defBody st) t∧t {nx:=fun _ H'=>Q .non H',rt:=Q} (start N vs) H):FnOk P w K mg base (CX1 P w) (k+1) f fd ps sp:=by
 obtain⟨oc,od,dV,kV,doc,pm,an,cdv,ct,osl,rfl,lk,hcd⟩:=F.ex
 exact fn_of lk hcd S len fun A outer s H vs Q E hr hsp=>hbody cdv A outer s H vs Q E hr hsp
end
end L3
namespace L3
open PySem PyProof.Rows
section
variable{prog:Program}{w:World}{A:Around}{E:Value→Shared→Prop}{s:Shared}
abbrev IsZipB(h:Heap)(z TI TO:Addr)(f0:Value)(b:Bool):Prop:=
 h.get? z=some {cls:= .type "zip",dict:=none,data:= .fields #[f0,.bool b,.bool false,.ref TI,.ref TO],slots:=#[]}
end
section
variable{prog:Program}{w:World}{A:Around}{E:Value→Shared→Prop}{s:Shared}
structure ZS(h0 h:Heap)(S z TI TO i1 i2 l1 l2:Addr)(xs ys:Array Value)(Ts:List Addr):Prop where
 kept:∀b o,h0.get? b=some o→h.get? b=some o
 zp:(Ts=[]∧IsZipB h z TI TO .none false∧∃a b,IsPair h TO a b)∨∃(T:Addr) (b:Bool) (oT:Obj),IsZipB h z TI TO (rawInt T) b∧h.get? T=some oT
 ti:IsPair h TI (.ref i1) (.ref i2)
 to:∃o,h.get? TO=some o
 t1:h.IsListIter i1 l1 Ts.length
 t2:h.IsListIter i2 l2 Ts.length
 nd:Ts.Nodup
 tp:∀(j:Nat) T,Ts[j]?=some T→∃x y,xs[j]?=some x∧ys[j]?=some y∧IsPair h T x y
 tb:∀T∈Ts,h0.objs.size≤T∧T≠z∧T≠TO∧T≠i1∧T≠i2∧T≠S
structure ZF(h0:Heap)(S z TI TO i1 i2 l1 l2:Addr)(xs ys:Array Value):Prop where
 D:ZipApart z TI TO i1 i2 l1 l2
 l1:h0.IsList l1 xs
 l2:h0.IsList l2 ys
 nz:h0.objs.size≤z
 nTO:h0.objs.size≤TO
 n1:h0.objs.size≤i1
 n2:h0.objs.size≤i2
 nS:h0.objs.size≤S
 sz:S≠z
 sTI:S≠TI
 sTO:S≠TO
 s1:S≠i1
 s2:S≠i2
end
structure ZEnd(h0 h:Heap)(S:Addr)(xs ys:Array Value)(Ts:List Addr):Prop where
 kept:∀b o,h0.get? b=some o→h.get? b=some o
 len:Ts.length=min xs.size ys.size
 nd:Ts.Nodup
 tp:∀(j:Nat) T,Ts[j]?=some T→∃x y,xs[j]?=some x∧ys[j]?=some y∧IsPair h T x y
 tb:∀T∈Ts,h0.objs.size≤T∧T≠S
 so:∃c,h.get? S=some {cls:= .type "list",dict:=none,data:= .seq (Ts.map Value.ref).toArray c,slots:=#[]}
section
variable{prog:Program}{w:World}{A:Around}{R:Result→Shared→Prop}
end
section
variable{prog:Program}{w:World}{A:Around}{E:Value→Shared→Prop}{s:Shared}{R:Result→Shared→Prop}
end
end L3
namespace L3
open PySem PySem.Spec PyProof.Rows L2
section
variable{X:Cx}{pins:List (Addr×Obj)}{σ:L2.St}{H H':Hp}{s:Shared}{h':Heap}
end
section
variable{X:Cx}
end
section
variable{X:Cx}
theorem turned2{pins:List (Addr×Obj)}{σ:L2.St}{H:Hp}{s:Shared}{h':Heap}{t':Nat}{a b:Addr}(I:Inv X pins σ H s)(k:∀c o,c≠a→c≠b→s.heap.get? c=some o→h'.get? c=some o)(fa:FpOk X pins H a)(fb:FpOk X pins H b):Inv X pins σ H {s with heap:=h',toks:=t'}:=by
 have na:∀c u,H c=some u→c≠a:=by
  intro c u e z
  rw[z,fa.1] at e
  cases e
 have nb:∀c u,H c=some u→c≠b:=by
  intro c u e z
  rw[z,fb.1] at e
  cases e
 have kk:∀c o,c∉[a,b]→s.heap.get? c=some o→h'.get? c=some o:=by
  intro c o hc e
  refine k c o ?_ ?_ e
  ·intro z;apply hc;rw[z];simp
  ·intro z;apply hc;rw[z];simp
 refine I.step (ch:=[a,b]) (g':=s.gens) (d':=s.drawn) ?_ ?_ ?_ ?_ ?_ ?_ ?_ ?_ ?_ ?_ I.bare
 ·intro c hc
  have:c=a∨c=b:=by simpa using hc
  rcases this with rfl | rfl
  ·exact⟨fa.2.2.2.1,fa.2.1,fa.2.2.2.2.1,fa.2.2.2.2.2⟩
  ·exact⟨fb.2.2.2.1,fb.2.1,fb.2.2.2.2.1,fb.2.2.2.2.2⟩
 ·intro c o _ _ hc e _;exact kk c o hc e
 ·intro c o _ _ hc e _;exact⟨o.slots,kk c o hc e⟩
 ·intro _ _ _ _ n;exact n
 ·intro c o hc e;exact⟨o,kk c o hc e⟩
 ·intro _ _ e;exact e
 ·intro _ _ _ e;exact e
 ·intro c ps e;exact⟨#[],by rw[e];simp⟩
 ·rintro m ⟨o,es,ep,ho,r⟩
  exact⟨o,es,ep,k _ o (Ne.symm fa.2.1) (Ne.symm fb.2.1) ho,r⟩
 ·intro c u e
  refine(I.hok c u e).stay ?_ (fun _ q=>q) fun _ _ q=>q
  intro d v hd q
  rcases hd with z | z
  ·subst z;exact k d v (na d u e) (nb d u e) q
  ·exact k d v (na d _ z) (nb d _ z) q
def Ite(K:PySem.W.Frag)(a:Addr):It:=
 ⟨fun i H=>∃xs x,SqL K H a xs∧xs[i]?=some x,fun i H x H'=>∃p y,H p=none∧H'=upd H p (.tup [.int i,y])∧x= .ref p∧∀xs,SqL K H a xs→xs[i]?=some y,fun i H=>∃xs,SqL K H a xs∧xs.length≤i⟩
theorem push_cases{h:Heap}{o u:Obj}{b:Addr}(e:(h.push o).get? b=some u):h.get? b=some u∨b=h.objs.size:=by
 by_cases hb:b=h.objs.size
 ·exact .inr hb
 ·refine .inl ?_
  have hl:=Heap.lt_size e
  rw[Heap.size_push] at hl
  obtain⟨e1,e2⟩:=Heap.get?_some_iff.mp e
  refine Heap.get?_some_iff.mpr ⟨?_,e2⟩
  cases h
  simpa[Heap.push,Array.getElem?_push,hb] using e1
theorem turn_enum{P:Program}{w:World}{K:PySem.W.Frag}{elts:List Expr}{x1:Nat}{tp:Pos}(a e it:Addr)(hne:e≠it):
  Turn P w K (.Tuple elts x1 tp) (Ite K a) [e,it] e (fun i h=>(∃old,IsEnum h e it i old)∧h.IsListIter it a i) where
 mem:=by simp
 obj:=by
  rintro i h ⟨⟨old,he⟩,hit⟩ b hb
  have:b=e∨b=it:=by simpa using hb
  rcases this with rfl | rfl
  ·exact⟨_,he,fun v z=>by cases z⟩
  ·obtain⟨o,e,c,d⟩:=hit
   exact⟨o,e,fun v z=>by rw[d] at z;cases z⟩
 keep:=by
  rintro i h h' ⟨⟨old,he⟩,hit⟩ k
  exact⟨⟨old,k e (by simp) _ he⟩,hit.at fun o z=>k it (by simp) o z⟩
 item:=by
  rintro X rfl rfl rfl hc i pins s σ H E I hf ⟨⟨old,he⟩,hit⟩ ⟨xs,x,hq,hx⟩
  obtain⟨its,rv,p,hz⟩:=I.list hq
  obtain⟨u,hu,ru⟩:=rv.get hx
  have fe:=hf e (by simp)
  have fi:=hf it (by simp)
  have le:e<s.heap.objs.size:=Heap.lt_size he
  have li:it<s.heap.objs.size:=by obtain⟨o,z,_⟩:=hit;exact Heap.lt_size z
  refine wpAny_pyNext_enum_item he hit p.isList (x:=u) (by simpa using hu) hne fun h1 ho hit1 hT hsz hk=>?_
  refine⟨_,rfl,wpAny_letOwnedTupleGo_enum ho fun h2 he2 hs2=>?_⟩
  replace hs2:Heap.SameBut e h1 h2:=hs2
  have hT2:h2.get? s.heap.objs.size=some {cls:= .type "tuple",data:= .seq #[.int i s.toks,u]}:=(hs2.2 _ (Nat.ne_of_gt le)).trans hT
  have hn:H s.heap.objs.size=none:=I.hok.fresh (Nat.le_refl _)
  have I1:Inv X pins σ (upd H s.heap.objs.size (.tup [.int i,x])) {s with heap:=s.heap.push {cls:= .type "tuple",data:= .seq #[.int i s.toks,u]},toks:=s.toks+1}:=by
   refine I.laid (fun b ob q=>Heap.get?_push_of_some _ q) (Nat.le_refl _) ⟨show 2≤sizeLine by rw[sizeLine_eq];omega,[.int i s.toks,u],.cons ⟨_,rfl⟩ (.cons ru .nil),⟨_,Heap.get?_push_size _ rfl,rfl,_,rfl⟩⟩
  have up:∀b,b<s.heap.objs.size→FpOk X pins H b→FpOk X pins (upd H s.heap.objs.size (.tup [.int i,x])) b:=by
   rintro b lb ⟨f0,f⟩
   refine⟨?_,f⟩
   rw[upd_ne (Nat.ne_of_lt lb)]
   exact f0
  have I2:=turned2 (h':=h2) (t':=s.toks+1) I1 (fun c o ha hb e'=>by
   rcases push_cases e' with z | z
   ·exact(hs2.2 c ha).trans (hk c o ha hb z)
   ·subst z
    have z2:(s.heap.push {cls:= .type "tuple",data:= .seq #[.int i s.toks,u]}).get? s.heap.objs.size=some o:=e'
    rw[Heap.get?_push_size _ rfl] at z2
    cases z2
    exact hT2) (up e le fe) (up it li fi)
  refine⟨.ref s.heap.objs.size,_,I2,rfl,⟨_,x,hn,rfl,rfl,fun ys hy=>by rw[I.list_inj hy hq];exact hx⟩,⟨⟨_,by simpa using he2⟩,hit1.at fun o z=>(hs2.2 it (Ne.symm hne)).trans z⟩,fun b hb=>?_⟩
  have:b=e∨b=it:=by simpa using hb
  rcases this with rfl | rfl
  ·exact(up _ le fe).1
  ·exact(up _ li fi).1
 done:=by
  rintro X rfl rfl rfl hc i pins s σ H E I hf ⟨⟨old,he⟩,hit⟩ ⟨xs,hq,hx⟩
  obtain⟨its,rv,p,hz⟩:=I.list hq
  obtain⟨f0,f1,f2,f3,f4,f5⟩:=hf it (by simp)
  have hl:=rv.length
  exact wpAny_pyNext_enum_end (I.ok.hd hc) he hit p.isList (by simp;omega) fun h' eb=>⟨rfl,I.turned (t':=s.toks) (fun b o hb e=>eb b o hb e) f0 f1 f3 f4 f5⟩
 self:=by
  rintro A i s Q E ⟨⟨old,he⟩,hit⟩ h
  exact wpAny_pyIter_enum he h
def iEnum(K:PySem.W.Frag)(ta:TA):TI:=fun σ H R=>ta σ H fun vs H1=>∃a,vs=[V.ref a]∧(∃xs,SqL K H1 a xs)∧R (Ite K a) H1
theorem pi_enum{elts:List Expr}{x1:Nat}{tp:Pos}{l:Expr}{ta:TA}{p pos:Pos}(hg:Gl X "enumerate")(hm:X.mg "enumerate"=none)(ha:PA X [l] ta)(hs:starEach [l] X.env=[(false,eval l X.env)]):
  PI X (.Tuple elts x1 tp) (.Call (.Name "enumerate" p) [l] [] pos) (iEnum X.K ta):=by
 intro pins s σ H R I h
 refine Call_ (ld_blt I hg hm (u:= .type "enumerate") (by kernel_rfl) (PyProof.Rows.callWith_type1 (thn (ha pos pins s σ H _ I h) fun us s1 ⟨vs,H1,I1,r1,q1⟩=>?_) hs rfl))
 obtain⟨a,rfl,⟨xs,hq⟩,q⟩:=q1
 obtain⟨u,rfl,ru⟩:=vals1 r1
 cases ru
 obtain⟨its,rv,pl,hz⟩:=I1.list hq
 refine call_enumerate_list pl.isList fun h' he hit hsz hk=>?_
 refine wpAny_pyIter_enum he ?_
 have hne:s1.heap.objs.size+1≠s1.heap.objs.size:=by omega
 refine⟨s1.heap.objs.size+1,[s1.heap.objs.size+1,s1.heap.objs.size],_,_,H1,rfl,I1.kept (t':=s1.toks) hk,turn_enum a _ _ hne,⟨⟨_,he⟩,hit⟩,fun b hb=>?_,q⟩
 have hb':s1.heap.objs.size≤b:=by
  have:b=s1.heap.objs.size+1∨b=s1.heap.objs.size:=by simpa using hb
  rcases this with rfl | rfl
  ·exact Nat.le_succ _
  ·exact Nat.le_refl _
 exact I1.fpOk hb' (I1.hok.fresh hb')
end
end L3
namespace PySem
theorem dl_keys_none:typeLookup (.type "list") "keys"=pure none:=by rw[typeLookup_type,builtinLookup_eq_fast];kernel_rfl
theorem dl_miss{prog:Program}{w:World}{A:Around}{E:Value→Shared→Prop}{s:Shared}{a:Addr}{o:Obj}{xs:Array Value}{k:Nat}{name:Str}{u:Tok}{Q:Value→Shared→Prop}
  (hx:s.heap.get? a=some o) (hc:o.cls= .type "list") (hdat:o.data= .seq xs k) (hd:o.dict=none) (hmiss:typeLookup (.type "list") name=pure none) (hname:(["__module__","__name__","__qualname__","__doc__","__annotations__"]:List Str).contains name=false) (hA:A.handled=none)
  (h:∀h' tk e,Heap.NewExcOf s.heap h' e "AttributeError"→E (.ref e) {s with heap:=h',toks:=tk}) (hsz:name.length+100≤sizeLine:=by size_fits):
  wpAny (model prog w) A (getAttrBy (.ref a) (.str name u) false) Q E s:=by
 obtain⟨c,dct,dat,sl⟩:=o
 simp only at hc hdat hd
 subst hc hdat hd
 obtain⟨hp,g,d,tk,os⟩:=s
 have hT:∀tk',(⟨hp,g,d,tk',os⟩:Shared).TypeIs (.ref a) "list":=fun _=>⟨_,hx,rfl⟩
 have f1:=sub_AttributeError
 have f3:=F.slot_list_getattribute.lookup
 have f4:=F.slot_list_getattribute.bind (.ref a)
 have f5:=am_list_getattr_none
 unfold getAttrBy
 repeat (any_goals (first | assumption | exact hT _ | ((with_reducible show wpAny _ _ (call (Value.builtin "list.__getattribute__") _ _) _ _ _);refine call_meets F.slot_list_getattribute (hT _) am_entry_list_getattribute (F.args_list_getattribute_2 _ _) (meets_getattribute_miss_list a xs k sl name _ hmiss hname hsz) ⟨hx,hA,fun h' tk' e hx'=>?_⟩) | wp_step))
 obtain⟨t',u',he⟩:=hx'.there
 show wpAny _ _ (getattributeRaised _ _ _ _ _ _ _) _ _ _
 unfold getattributeRaised
 repeat (any_goals (first | assumption | wp_step))
 exact h _ _ _ hx'.of
theorem dl_keys{prog:Program}{w:World}{A:Around}{E:Value→Shared→Prop}{s:Shared}{a:Addr}{o:Obj}{xs:Array Value}{k:Nat}{Q:Option Value→Shared→Prop}
  (hx:s.heap.get? a=some o) (hc:o.cls= .type "list") (hdat:o.data= .seq xs k) (hd:o.dict=none) (hA:A.handled=none)
  (h:∀h' tk,(∀b o,s.heap.get? b=some o→h'.get? b=some o)→Q none {s with heap:=h',toks:=tk}):wpAny (model prog w) A (getAttr? (.ref a) "keys") Q E s:=by
 obtain⟨hp,g,d,tk,os⟩:=s
 unfold getAttr? getAttrBy?
 have f1:=sub_AttributeError
 repeat (any_goals (first | assumption | ((with_reducible show wpAny _ _ (getAttrBy _ _ false) _ _ _);refine dl_miss hx hc hdat hd dl_keys_none (by decide+kernel) hA fun h' tk' e hx'=>?_;obtain⟨ob,vs,he,hcl,_,_⟩:=hx'.there;refine wpAny_bind (wpAny_isInstance (T:="AttributeError") ⟨ob,he,hcl⟩ f1 ?_);exact wpAny_pure (h h' tk' hx'.keeps)) | wp_step))
section
variable{prog:Program}{w:World}{A:Around}{E:Value→Shared→Prop}{R:Result→Shared→Prop}
theorem dl_entry_loop:entryFor table "dict.update.loop"=some Builtin.«dict.update.loop»:=entryFor_of_tree (by kernel_rfl)
theorem dl_plain_loop:plainId "dict.update.loop"=true:=by decide+kernel
def DPair{K:Type}[DecidableEq K](knd:KeyKind prog w K)(h:Heap)(v:Value)(p:K×Value):Prop:=∃t u,v= .ref t∧h.IsTuple t #[u,p.2]∧knd.is p.1 u=true
theorem dl_apart{K:Type}[DecidableEq K]{knd:KeyKind prog w K}{h:Heap}{d I l:Addr}{i:Nat}{kvs:List (K×Value)}(hd:h.DictOf knd d kvs)(hI:h.IsListIter I l i):d≠I:=by
 rintro rfl
 obtain⟨o,_,_,ho,_,hc,_⟩:=hd
 obtain⟨o2,ho2,_,hc2⟩:=hI
 rw[ho] at ho2
 cases ho2
 rw[hc] at hc2
 cases hc2
theorem dl_loop{K:Type}[DecidableEq K]{knd:KeyKind prog w K}{l I d:Addr}{items:Array Value}{ps:List (K×Value)}(hh:A.in1.handled=none)(hsz:items.size<sizeLine)(hps:ps.length=items.size):
  ∀(k i:Nat) (s:Shared) (kvs:List (K×Value)) (t:Tok),items.size - i=k→i≤items.size→kvs.length≤i→
  s.heap.IsListIter I l i→s.heap.IsList l items→s.heap.DictOf knd d kvs→(∀(j:Nat) v p,items[j]?=some v→ps[j]?=some p→DPair knd s.heap v p)→
  (∀h' tk,h'.DictOf knd d ((ps.drop i).foldl (fun m p=>stored m p.1 p.2) kvs)→(∀b o,b≠I→b≠d→s.heap.get? b=some o→h'.get? b=some o)→R (.ok (.ret .none)) {s with heap:=h',toks:=tk})→
  codeAny (model prog w) A (.builtin "dict.update.loop" ⟨[.ref d,.ref I,.int i t,.none],[]⟩) R s:=by
 intro k
 induction k with
 | zero=>
  intro i s kvs t hk hi hkv hI hl hd hp q
  have hin:i=items.size:=by omega
  refine codeAny_builtin dl_entry_loop ?_
  rw[Around.under_plainId dl_plain_loop _]
  show wpAny _ A.in1 (pyNext (.ref I) >>=_) _ _ s
  refine wpAny_bind (wpAny_pyNext_list_end hh hI hl (by rw[hin];simp) fun h' he=>?_)
  show wpAny _ _ (Builtin.Dict.addKeywords d [] >>=_) _ _ _
  refine wpAny_bind (wpAny_pure (wpAny_pure ?_))
  have hdI:=dl_apart hd hI
  refine q h' _ ?_ fun b o h1 _ e=>he b o h1 e
  rw[List.drop_of_length_le (by omega)]
  exact hd.extBut he hdI
 | succ k ih=>
  intro i s kvs t hk hi hkv hI hl hd hp q
  have hlt:i<items.size:=by omega
  obtain⟨v,hv⟩:∃v,items[i]?=some v:=⟨_,Array.getElem?_eq_getElem hlt⟩
  obtain⟨p,hpi⟩:∃p,ps[i]?=some p:=⟨_,List.getElem?_eq_getElem (by omega)⟩
  refine codeAny_builtin dl_entry_loop ?_
  rw[Around.under_plainId dl_plain_loop _]
  show wpAny _ A.in1 (pyNext (.ref I) >>=_) _ _ s
  refine wpAny_bind (wpAny_pyNext_list_item hI hl hv fun h' hI' hs'=>?_)
  obtain⟨tt,u,rfl,htp,hku⟩:=hp i v p hv hpi
  have hdI:=dl_apart hd hI
  have keepI:∀b o,b≠I→s.heap.get? b=some o→h'.get? b=some o:=fun b o hb e=>(hs'.2 b hb).trans e
  have tI:tt≠I:=by
   rintro rfl
   obtain⟨o,ho,_,n,hc⟩:=htp
   obtain⟨o2,ho2,_,hc2⟩:=hI
   rw[ho] at ho2;cases ho2;rw[hc] at hc2;cases hc2
  have lI:l≠I:=by
   rintro rfl
   obtain⟨o,ho,_,n,hc⟩:=hl
   obtain⟨o2,ho2,_,hc2⟩:=hI
   rw[ho] at ho2;cases ho2;rw[hc] at hc2;cases hc2
  have nd:∀(b:Addr) (o:Obj) xs n,s.heap.get? b=some o→o.data= .seq xs n→b≠d∧b≠I:=by
   intro b o xs n ho hc
   constructor
   ·rintro rfl
    obtain⟨o2,_,_,ho2,_,hc2,_⟩:=hd
    rw[ho] at ho2;cases ho2;rw[hc] at hc2;cases hc2
   ·rintro rfl
    obtain⟨o2,ho2,_,hc2⟩:=hI
    rw[ho] at ho2;cases ho2;rw[hc] at hc2;cases hc2
  obtain⟨ot,hot,hct,nt,hdt⟩:=id htp
  show wpAny _ _ (holding [.ref tt] _ >>=_) _ _ _
  refine wpAny_bind (wpAny_holding (wpAny_bind (wpAny_tryCatch ?_)))
  unfold Builtin.Dict.pairItems
  refine wpAny_bind (wpAny_typeOf (T:="tuple") ⟨ot,keepI _ _ tI hot,hct⟩ ?_)
  rw[if_pos (by decide)]
  refine wpAny_bind (wpAny_seqItems (keepI _ _ tI hot) hdt ?_)
  refine wpAny_pure ?_
  show wpAny _ _ (holding [u,p.2] (dictSet d u p.2)) _ _ _
  have hd':h'.DictOf knd d kvs:=hd.extBut (fun b o hb e=>keepI b o hb e) hdI
  refine wpAny_holding (wpAny_dictSet_pairs hku hd' (fun h2 hd2 hs2=>?_) (by omega))
  refine wpAny_pure ⟨plainId_quiet dl_plain_loop _,?_⟩
  have keep2:∀b o,b≠I→b≠d→s.heap.get? b=some o→h2.get? b=some o:=fun b o h1 h3 e=>(hs2.2 b h3).trans (keepI b o h1 e)
  have:=ih (i+1) {s with heap:=h2,toks:=s.toks+1} (stored kvs p.1 p.2) 0 (by omega) (by omega) ?_ ?_ ?_ hd2 ?_ ?_
  ·exact this
  ·unfold stored
   split
   ·rw[List.length_map];omega
   ·rw[List.length_append,List.length_singleton];omega
  ·obtain⟨o,ho,r⟩:=hI'
   exact⟨o,(hs2.2 I (Ne.symm hdI)).trans ho,r⟩
  ·obtain⟨o,ho,hc,n,r⟩:=hl
   exact⟨o,keep2 _ _ (nd _ _ _ _ ho r).2 (nd _ _ _ _ ho r).1 ho,hc,n,r⟩
  ·intro j v p' h1 h3
   obtain⟨t3,u3,e3,⟨o,ho,hc,n,r⟩,g3⟩:=hp j v p' h1 h3
   exact⟨t3,u3,e3,⟨o,keep2 _ _ (nd _ _ _ _ ho r).2 (nd _ _ _ _ ho r).1 ho,hc,n,r⟩,g3⟩
  ·intro h3 tk3 hd3 k3
   refine q h3 tk3 ?_ fun b o h1 h4 e=>k3 b o h1 h4 (keep2 b o h1 h4 e)
   rw[List.drop_eq_getElem_cons (by omega:i<ps.length)]
   rw[List.getElem?_eq_getElem (by omega)] at hpi
   cases hpi
   exact hd3
variable{s:Shared}
theorem dl_call{K:Type}[DecidableEq K]{knd:KeyKind prog w K}{l:Addr}{o:Obj}{n:Nat}{items:Array Value}{ps:List (K×Value)}{Q:Value→Shared→Prop}(hh:A.handled=none)
  (ho:s.heap.get? l=some o) (hc:o.cls= .type "list") (hdat:o.data= .seq items n) (hdi:o.dict=none) (hsz:items.size<sizeLine) (hps:ps.length=items.size)
  (hp:∀(j:Nat) v p,items[j]?=some v→ps[j]?=some p→DPair knd s.heap v p)
  (h:∀h' tk,h'.DictOf knd s.heap.objs.size (ps.foldl (fun m p=>stored m p.1 p.2) [])→(∀b o,s.heap.get? b=some o→h'.get? b=some o)→Q (.ref s.heap.objs.size) {s with heap:=h',toks:=tk}):
  wpAny (model prog w) A (call (.type "dict") [.ref l]) Q E s:=by
 refine callType_codes (Q₁:=fun obj s₁=>obj= .ref s.heap.objs.size∧s₁={s with heap:=s.heap.push {cls:= .type "dict",data:= .dict #[]}}) F.kt_called_dict (F.kt_typeCall_dict_1 _) F.entry_dict_init (kt_code_dict_new _ ⟨rfl,rfl⟩) ?_
 rintro obj s₁ ⟨rfl,rfl⟩
 have hnew:(s.heap.push {cls:= .type "dict",data:= .dict #[]}).DictOf knd s.heap.objs.size []:=Heap.DictOf.new s.heap
 refine⟨hnew.typeIs,F.args_dict_init_2 _ _,?_⟩
 unfold Builtin.«dict.__init__»
 refine wpAny_bind ?_
 unfold Builtin.Dict.selfAndRest
 refine wpAny_bind (wpAny_notOrdered_dict hnew.typeIs ?_)
 show wpAny _ _ (pure (s.heap.objs.size,[Value.ref l])) _ _ _
 refine wpAny_pure ?_
 show wpAny _ _ (Builtin.Dict.updateFrom "dict.__init__" s.heap.objs.size (.ref l) [] .none) _ _ _
 unfold Builtin.Dict.updateFrom
 have ho':(s.heap.push {cls:= .type "dict",data:= .dict #[]}).get? l=some o:=Heap.get?_push_of_some _ ho
 refine wpAny_bind (wpAny_typeOf (T:="list") ⟨o,ho',hc⟩ ?_)
 rw[if_pos (by decide)]
 refine wpAny_bind (dl_keys ho' hc hdat hdi (by first | exact hh | rfl) fun h1 tk1 k1=>?_)
 simp only[Option.isNone_none,if_true]
 have hl1:h1.IsList l items:=⟨o,k1 _ _ ho',hc,n,hdat⟩
 have hd1:h1.DictOf knd s.heap.objs.size []:=by
  obtain⟨q,es,ep,hq,r⟩:=hnew
  exact⟨q,es,ep,k1 _ _ hq,r⟩
 have old:∀b o,s.heap.get? b=some o→h1.get? b=some o:=fun b o e=>k1 b o (Heap.get?_push_of_some _ e)
 refine wpAny_bind (wpAny_rule ?_)
 refine wpAny_bind (wpAny_pyIter_list hl1 ?_)
 refine wpAny_pure ⟨plainId_quiet dl_plain_loop _,?_⟩
 refine dl_loop (A:=A.in1) (knd:=knd) (ps:=ps) hh hsz hps _ 0 _ [] 0 rfl (Nat.zero_le _) (Nat.zero_le _) ⟨_,Heap.get?_push_size _ rfl,rfl,rfl⟩ (hl1.push _) (hd1.push _) ?_ ?_
 ·intro j v p h2 h3
  obtain⟨t,u,e,⟨q,hq,r⟩,g⟩:=hp j v p h2 h3
  exact⟨t,u,e,⟨q,Heap.get?_push_of_some _ (old _ _ hq),r⟩,g⟩
 ·intro h' tk hd' hk
  refine⟨rfl,h h' tk hd' fun b o e=>hk b o ?_ ?_ (Heap.get?_push_of_some _ (old _ _ e))⟩
  ·exact Nat.ne_of_lt (Heap.lt_size (old _ _ e))
  ·exact Nat.ne_of_lt (Heap.lt_size e)
end
end PySem
namespace L3
open PySem PySem.Spec PyProof.Rows L2
section
variable{X:Cx}{pins:List (Addr×Obj)}{σ:L2.St}{H:Hp}{s:Shared}
def PairsV(K:PySem.W.Frag)(H:Hp):List V→List (Key×V)→Prop
 | [],[]=>True
 | v::r,p::q=>(∃t,v= .ref t∧SqT K H t [kV p.1,p.2])∧PairsV K H r q
 | _,_=>False
theorem pairs_ex(I:Inv X pins σ H s):∀(vs:List V) (its:List Value) (ps:List (Key×V)),Vals vs its→PairsV X.K H vs ps→∃ps',KV ps ps'∧ps'.length=its.length∧∀(j:Nat) v p,its[j]?=some v→ps'[j]?=some p→DPair (mixKind X.prog X.w) s.heap v p
 | [],its,ps,r,h=>by
  cases ps with
  | cons _ _=>exact h.elim
  | nil=>
   have:=r.length
   cases its with
   | cons _ _=>simp at this
   | nil=>exact⟨[],by constructor,rfl,fun j v p h=>by simp at h⟩
 | v::vs,its,ps,r,h=>by
  cases ps with
  | nil=>exact h.elim
  | cons p ps=>
   obtain⟨⟨t,rfl,ht⟩,h⟩:=h
   cases r with
   | @cons _ u _ its ru r=>
   cases (show u=Value.ref t from ru)
   obtain⟨w2,r2,ht2,_⟩:=I.tuple ht
   obtain⟨u1,u2,rfl,s1,s2⟩:=vals2 r2
   obtain⟨ps',k1,k2,k3⟩:=pairs_ex I vs its ps r h
   refine⟨(p.1,u2)::ps',.cons ⟨rfl,s2⟩ k1,by rw[List.length_cons,List.length_cons,k2],fun j v q h1 h2=>?_⟩
   cases j with
   | zero=>
    cases h1;cases h2
    exact⟨t,u1,rfl,ht2,kV_is s1⟩
   | succ j=>exact k3 j v q h1 h2
theorem kv_fold:∀{ps:List (Key×V)} {ps':List (Key×Value)} {kvs:List (Key×V)} {vs:List (Key×Value)},KV ps ps'→KV kvs vs→KV (ps.foldl (fun m p=>putK m p.1 p.2) kvs) (ps'.foldl (fun m p=>stored m p.1 p.2) vs)
 | _,_,_,_,.nil,h=>h
 | _,_,_,_,.cons e r,h=>by
  rw[List.foldl_cons,List.foldl_cons]
  refine kv_fold r ?_
  rw[e.1]
  exact h.put _ e.2
theorem len_fold:∀(ps:List (Key×V)) (kvs:List (Key×V)),(ps.foldl (fun m p=>putK m p.1 p.2) kvs).length≤kvs.length+ps.length
 | [],kvs=>Nat.le_refl _
 | p::ps,kvs=>by
  rw[List.foldl_cons,List.length_cons]
  have:=len_fold ps (putK kvs p.1 p.2)
  have:=length_putK kvs p.1 p.2
  omega
theorem pairs_len{K:PySem.W.Frag}:∀{vs:List V} {ps:List (Key×V)},PairsV K H vs ps→vs.length=ps.length
 | [],[],_=>rfl
 | _::_,_::_,h=>by rw[List.length_cons,List.length_cons,pairs_len h.2]
theorem call_dictL(hc:X.calm=true):CallR X (.type "dict") (fun xs H Q=>∃(a:Addr) (vs:List V) (ps:List (Key×V)),xs=[V.ref a]∧SqL X.K H a vs∧PairsV X.K H vs ps∧vs.length<sizeLine∧
  ∀p,H p=none→Q (.ref p) (upd H p (.dK (ps.foldl (fun m p=>putK m p.1 p.2) [])))):=by
 intro pins s σ H xs us Q I r h
 obtain⟨a,vs,ps,rfl,hx,hp,hz,q⟩:=h
 obtain⟨u,rfl,ru⟩:=vals1 r
 cases ru
 obtain⟨its,rv,⟨o,n,ho,h1,h2,h3⟩,_⟩:=I.list hx
 obtain⟨ps',k1,k2,k3⟩:=pairs_ex I vs its ps rv hp
 have hl:=rv.length
 have hl2:=pairs_len hp
 refine dl_call (knd:=mixKind X.prog X.w) (ps:=ps') (I.ok.hd hc) ho h1 h3 h2 (by rw[List.size_toArray];omega) (by rw[List.size_toArray];exact k2) (fun j v p e1 e2=>k3 j v p (by simpa using e1) e2) fun h' tk dd keep=>?_
 have lf:=len_fold ps []
 refine⟨.ref _,_,I.laid (a:=s.heap.objs.size) (o:= .dK (ps.foldl (fun m p=>putK m p.1 p.2) [])) (t':=tk) keep (Nat.le_refl _) (dk_new (by rw[List.length_nil] at lf;omega) (beq_eq_false_iff_ne.mpr (Ne.symm (Nat.ne_of_lt I.big))) (kv_fold k1 .nil) dd),rfl,q _ (I.hok.fresh (Nat.le_refl _))⟩
end
def Itd(a:Addr)(o:Obj):It:=⟨fun i H=>∃kvs p,H a=some (.frz o (.dK kvs))∧kvs[i]?=some p,fun i H x H'=>H'=H∧∀kvs,H a=some (.frz o (.dK kvs))→∃p,kvs[i]?=some p∧x=kV p.1,fun i H=>∃kvs,H a=some (.frz o (.dK kvs))∧kvs.length≤i⟩
theorem frz_at{P:Program}{w:World}{H:Hp}{h:Heap}{a:Addr}{o:Obj}{kvs:List (Key×V)}{es:Array DictEntry}{ep:Nat}(x:ObjOk P w H h a (.frz o (.dK kvs)))(hd:o.data= .dict es ep):
  ∃vs,KV kvs vs∧h.DictAt (mixKind P w) a vs ep∧vs.length=es.size:=by
 obtain⟨e,_,_,vs,rel,o',es',ep',e',h1,h2,h3,h4,h5⟩:=x
 rw[e] at e'
 cases e'
 rw[hd] at h2
 cases h2
 refine⟨vs,rel,⟨o,es,e,h1,hd,h3,h4,h5⟩,?_⟩
 have:=h4.length
 simpa using this.symm
theorem is_kV{P:Program}{w:World}{k:Key}{u:Value}(h:(mixKind P w).is k u=true):L2.RelV (kV k) u:=by
 rcases keyIs_shape h with⟨i,t,rfl,rfl⟩ | ⟨x,t,rfl,rfl⟩
 ·exact⟨t,rfl⟩
 ·exact⟨t,rfl⟩
theorem kv_at{kvs:List (Key×V)}{vs:List (Key×Value)}(r:KV kvs vs):∀{i:Nat} {p:Key×V},kvs[i]?=some p→∃u,vs[i]?=some (p.1,u)∧L2.RelV p.2 u:=by
 unfold KV at r
 induction r with
 | nil=>intro i p e;simp at e
 | @cons p q ps qs h t ih=>
  intro i p e
  cases i with
  | zero=>
   cases e
   exact⟨q.2,by rw[h.1];rfl,h.2⟩
  | succ i=>exact ih (by simpa using e)
theorem turn_dict{P:Program}{w:World}{K:PySem.W.Frag}{tg:Expr}(a it:Addr){o:Obj}{es:Array DictEntry}{ep:Nat}(hd:o.data= .dict es ep):Turn P w K tg (Itd a o) [it] it (fun i h=>h.IsKeyIter it a i es.size ep) where
 mem:=by simp
 obj:=fun i h st b hb=>by
  have e:b=it:=by simpa using hb
  subst e
  obtain⟨o,e,c,d⟩:=st
  exact⟨o,e,fun v z=>by rw[d] at z;cases z⟩
 keep:=fun i h h' st k=>st.at fun o e=>k it (by simp) o e
 item:=by
  intro X hP hw hK hc i pins s σ H E I hf st hg
  subst hP hw hK
  obtain⟨kvs,p,hq,hx⟩:=hg
  obtain⟨vs,rel,dd,hl⟩:=frz_at (I.hok a _ hq) hd
  obtain⟨q,hx2,e2⟩:=kv_at rel hx
  obtain⟨f0,f1,f2,f3,f4,f5⟩:=hf it (by simp)
  rw[←hl] at st
  refine wpAny_pyNext_dict_item st dd hx2 fun key h' hkey st' sb=>?_
  have I1:Inv X pins σ H {s with heap:=h'}:=I.turned (t':=s.toks) (fun b o hb e=>(sb.2 b hb).trans e) f0 f1 f3 f4 f5
  obtain⟨ob,e,c,d⟩:=id st'
  rw[hl] at st'
  exact⟨key,rfl,go_of (s:={s with heap:=h'}) e c d (by decide) ⟨kV p.1,H,I1,is_kV hkey,⟨rfl,fun ys hy=>by rw[hq] at hy;cases hy;exact⟨p,hx,rfl⟩⟩,st',fun b hb=>(hf b hb).1⟩⟩
 done:=by
  intro X hP hw hK hc i pins s σ H E I hf st hg
  subst hP hw hK
  obtain⟨kvs,hq,hx⟩:=hg
  obtain⟨vs,rel,dd,hl⟩:=frz_at (I.hok a _ hq) hd
  obtain⟨f0,f1,f2,f3,f4,f5⟩:=hf it (by simp)
  have hl2:=rel.length
  rw[←hl] at st
  exact wpAny_pyNext_dict_end (I.ok.hd hc) st dd (by simp;omega) fun h' eb=>⟨rfl,I.turned (t':=s.toks) (fun b o hb e=>eb b o hb e) f0 f1 f3 f4 f5⟩
 self:=fun _ _ _ _ _ st h=>wpAny_pyIter_keyiter st h
section
variable{X:Cx}{pins:List (Addr×Obj)}{σ:L2.St}{H:Hp}{s:Shared}{a:Addr}
theorem d_freeze{kvs:List (Key×V)}(I:Inv X pins σ H s)(e:H a=some (.dK kvs)):
  ∃o es ep,o.data= .dict es ep∧s.heap.get? a=some o∧Inv X pins σ (upd H a (.frz o (.dK kvs))) s∧(∀o u,X.H₀ a≠some (.frz o u)):=by
 obtain⟨z,hd,vs,rel,dd⟩:=dk_of I.hok e
 obtain⟨o,es,ep,ho,h1,h2,h3⟩:=id dd
 refine⟨o,es,ep,h2,ho,?_,fun o' u q=>?_⟩
 ·exact I.write (x:=a) (e:=a) (o:= .frz o (.dK kvs)) (h':=s.heap) (t':=s.toks) (by rw[e];exact True.intro) (.inl rfl) (fun b q _ r=>r) ⟨o,ho⟩ ⟨ho,z,hd,vs,rel,dd⟩
 ·have:=I.base.frzs a o' u q
  rw[e] at this
  cases this
theorem d_thaw{kvs:List (Key×V)}{o:Obj}(I:Inv X pins σ H s)(e:H a=some (.frz o (.dK kvs)))(nf:∀o u,X.H₀ a≠some (.frz o u)):Inv X pins σ (upd H a (.dK kvs)) s where
 ok:=I.ok
 os:=I.os
 bare:=I.bare
 base:=by
  have ne:∀b,H b=none→b≠a:=fun b n z=>by subst z;rw[e] at n;cases n
  refine⟨I.base.keep,I.base.slot,fun b q h n hx=>?_,I.base.there,fun b xs h=>?_,fun b q u h=>?_,fun b ps h=>?_⟩
  ·have:=I.base.free b q h n hx
   rw[upd_ne (ne b this)];exact this
  ·have:=I.base.tups b xs h
   rw[upd_ne (fun z=>by subst z;rw[e] at this;cases this)];exact this
  ·have:=I.base.frzs b q u h
   rw[upd_ne (fun z=>by subst z;exact nf q u h)];exact this
  ·obtain⟨m,this⟩:=I.base.tbls b ps h
   exact⟨m,by rw[upd_ne (fun z=>by subst z;rw[e] at this;cases this)];exact this⟩
 loc:=I.loc
 cell:=I.cell
 free:=by rw[upd_ne (fun z=>by have:=I.free;rw[z,e] at this;cases this)];exact I.free
 freeC:=fun x c h=>by
  have:=I.freeC x c h
  rw[upd_ne (fun z=>by subst z;rw[e] at this;cases this)];exact this
 pin:=fun p hp=>by
  obtain⟨h1,h2,h3⟩:=I.pin p hp
  exact⟨h1,by rw[upd_ne (fun z=>by rw[z,e] at h2;cases h2)];exact h2,h3⟩
 hok:=by
  intro b u h
  by_cases hb:b=a
  ·subst hb
   rw[upd_same] at h
   cases h
   obtain⟨_,q⟩:=I.hok b _ e
   exact q
  ·rw[upd_ne hb] at h
   refine(I.hok b u h).stay (fun c v _ r=>r) (fun c r=>?_) fun c xs r=>?_
   ·rw[upd_ne (fun z=>by subst z;rw[e] at r;cases r)];exact r
   ·rw[upd_ne (fun z=>by subst z;rw[e] at r;cases r)];exact r
 len:=I.len
end
section
variable{X:Cx}
theorem turnedL{pins:List (Addr×Obj)}{σ:L2.St}{H:Hp}{s:Shared}{h':Heap}{t':Nat}{ch:List Addr}(I:Inv X pins σ H s)(k:∀c o,c∉ch→s.heap.get? c=some o→h'.get? c=some o)(f:∀b∈ch,FpOk X pins H b):Inv X pins σ H {s with heap:=h',toks:=t'}:=by
 have nn:∀c u,H c=some u→c∉ch:=by
  intro c u e z
  rw[(f c z).1] at e
  cases e
 refine I.step (ch:=ch) (g':=s.gens) (d':=s.drawn) ?_ ?_ ?_ ?_ ?_ ?_ ?_ ?_ ?_ ?_ I.bare
 ·intro c hc
  exact⟨(f c hc).2.2.2.1,(f c hc).2.1,(f c hc).2.2.2.2.1,(f c hc).2.2.2.2.2⟩
 ·intro c o _ _ hc e _;exact k c o hc e
 ·intro c o _ _ hc e _;exact⟨o.slots,k c o hc e⟩
 ·intro _ _ _ _ n;exact n
 ·intro c o hc e;exact⟨o,k c o hc e⟩
 ·intro _ _ e;exact e
 ·intro _ _ _ e;exact e
 ·intro c ps e;exact⟨#[],by rw[e];simp⟩
 ·rintro m ⟨o,es,ep,ho,r⟩
  exact⟨o,es,ep,k _ o (fun z=>(f _ z).2.1 rfl) ho,r⟩
 ·intro c u e
  refine(I.hok c u e).stay ?_ (fun _ q=>q) fun _ _ q=>q
  intro d v hd q
  rcases hd with z | z
  ·subst z;exact k d v (nn d u e) q
  ·exact k d v (nn d _ z) q
def Itz(K:PySem.W.Frag)(a b:Addr):It:=
 ⟨fun i H=>∃xs ys x y,SqL K H a xs∧SqL K H b ys∧xs[i]?=some x∧ys[i]?=some y,
  fun i H x H'=>∃p u v,H p=none∧H'=upd H p (.tup [u,v])∧x= .ref p∧(∀xs,SqL K H a xs→xs[i]?=some u)∧∀ys,SqL K H b ys→ys[i]?=some v,
  fun i H=>∃xs ys,SqL K H a xs∧SqL K H b ys∧(xs.length≤i∨ys.length≤i)⟩
theorem turn_zip{P:Program}{w:World}{K:PySem.W.Frag}{elts:List Expr}{x1:Nat}{tp:Pos}(z TI TO i1 i2 a b:Addr)(D:ZipApart z TI TO i1 i2 a b):
  Turn P w K (.Tuple elts x1 tp) (Itz K a b) [z,TI,TO,i1,i2] z (fun i h=>IsZip h z TI TO .none∧IsPair h TI (.ref i1) (.ref i2)∧(∃u v,IsPair h TO u v)∧h.IsListIter i1 a i∧h.IsListIter i2 b i) where
 mem:=by simp
 obj:=by
  rintro i h ⟨hz,hTI,⟨u,v,hTO⟩,⟨o1,e1,_,d1⟩,⟨o2,e2,_,d2⟩⟩ c hc
  simp only[List.mem_cons,List.not_mem_nil,or_false] at hc
  rcases hc with rfl | rfl | rfl | rfl | rfl
  ·exact⟨_,hz,fun v q=>by cases q⟩
  ·exact⟨_,hTI,fun v q=>by cases q⟩
  ·exact⟨_,hTO,fun v q=>by cases q⟩
  ·exact⟨_,e1,fun v q=>by rw[d1] at q;cases q⟩
  ·exact⟨_,e2,fun v q=>by rw[d2] at q;cases q⟩
 keep:=by
  rintro i h h' ⟨hz,hTI,⟨u,v,hTO⟩,h1,h2⟩ k
  exact⟨k z (by simp) _ hz,k TI (by simp) _ hTI,⟨u,v,k TO (by simp) _ hTO⟩,h1.at fun o q=>k i1 (by simp) o q,h2.at fun o q=>k i2 (by simp) o q⟩
 item:=by
  rintro X rfl rfl rfl hc i pins s σ H E I hf ⟨hz,hTI,⟨u0,v0,hTO⟩,h1,h2⟩ ⟨xs,ys,x,y,hq,hr,hx,hy⟩
  obtain⟨its,rv,p,_⟩:=I.list hq
  obtain⟨jts,rw2,p2,_⟩:=I.list hr
  obtain⟨u,hu,ru⟩:=rv.get hx
  obtain⟨v,hv,rv2⟩:=rw2.get hy
  have lt:∀c∈[z,TI,TO,i1,i2],@LT.lt Nat _ c s.heap.objs.size:=by
   intro c hc
   simp only[List.mem_cons,List.not_mem_nil,or_false] at hc
   obtain⟨o1,e1,_⟩:=id h1
   obtain⟨o2,e2,_⟩:=id h2
   rcases hc with rfl | rfl | rfl | rfl | rfl
   ·exact Heap.lt_size hz
   ·exact Heap.lt_size hTI
   ·exact Heap.lt_size hTO
   ·exact Heap.lt_size e1
   ·exact Heap.lt_size e2
  refine wpAny_pyNext_zip_item D hz hTI hTO h1 h2 p.isList p2.isList (x:=u) (y:=v) (by simpa using hu) (by simpa using hv) fun hh ho hTO2 g1 g2 hT hsz hk=>?_
  refine⟨_,rfl,wpAny_letOwnedTupleGo_zip ho fun h3 hz3 hs3=>?_⟩
  replace hs3:Heap.SameBut z hh h3:=hs3
  have nz:s.heap.objs.size≠z:=Nat.ne_of_gt (lt z (by simp))
  have hT3:h3.get? s.heap.objs.size=some {cls:= .type "tuple",data:= .seq #[u,v]}:=(hs3.2 _ nz).trans hT
  have hn:H s.heap.objs.size=none:=I.hok.fresh (Nat.le_refl _)
  have I1:Inv X pins σ (upd H s.heap.objs.size (.tup [x,y])) {s with heap:=s.heap.push {cls:= .type "tuple",data:= .seq #[u,v]},toks:=s.toks}:=
   I.laid (fun b ob q=>Heap.get?_push_of_some _ q) (Nat.le_refl _) ⟨show 2≤sizeLine by rw[sizeLine_eq];omega,[u,v],.cons ru (.cons rv2 .nil),⟨_,Heap.get?_push_size _ rfl,rfl,_,rfl⟩⟩
  have up:∀c∈[z,TI,TO,i1,i2],FpOk X pins (upd H s.heap.objs.size (.tup [x,y])) c:=by
   intro c hc
   refine⟨?_,(hf c hc).2⟩
   rw[upd_ne (Nat.ne_of_lt (lt c hc))]
   exact(hf c hc).1
  have I2:=turnedL (h':=h3) (t':=s.toks) I1 (fun c o hc e'=>by
   simp only[List.mem_cons,List.not_mem_nil,or_false,not_or] at hc
   rcases push_cases e' with q | q
   ·exact(hs3.2 c hc.1).trans (hk c o hc.1 hc.2.2.1 hc.2.2.2.1 hc.2.2.2.2 q)
   ·subst q
    have z2:(s.heap.push {cls:= .type "tuple",data:= .seq #[u,v]}).get? s.heap.objs.size=some o:=e'
    rw[Heap.get?_push_size _ rfl] at z2
    cases z2
    exact hT3) up
  refine⟨.ref s.heap.objs.size,_,I2,rfl,⟨_,x,y,hn,rfl,rfl,fun zs hs=>by rw[I.list_inj hs hq];exact hx,fun zs hs=>by rw[I.list_inj hs hr];exact hy⟩,
   ⟨hz3,(hs3.2 TI D.TIz).trans (hk TI _ D.TIz D.TITO D.TIi1 D.TIi2 hTI),⟨_,_,(hs3.2 TO D.TOz).trans hTO2⟩,g1.at fun o q=>(hs3.2 i1 D.i1z).trans q,g2.at fun o q=>(hs3.2 i2 D.i2z).trans q⟩,fun c hc=>(up c hc).1⟩
 done:=by
  rintro X rfl rfl rfl hc i pins s σ H E I hf ⟨hz,hTI,⟨u0,v0,hTO⟩,h1,h2⟩ ⟨xs,ys,hq,hr,hl⟩
  obtain⟨its,rv,p,_⟩:=I.list hq
  obtain⟨jts,rw2,p2,_⟩:=I.list hr
  have l1:=rv.length
  have l2:=rw2.length
  refine wpAny_pyNext_zip_end (I.ok.hd hc) D hz hTI hTO h1 h2 p.isList p2.isList ?_ fun h' eb=>⟨rfl,turnedL (t':=s.toks) I (ch:=[z,TI,TO,i1,i2]) (fun c o hc e=>?_) hf⟩
  ·rcases hl with hl | hl
   ·exact .inl (by simp;omega)
   ·exact .inr (by simp;omega)
  ·simp only[List.mem_cons,List.not_mem_nil,or_false,not_or] at hc
   exact eb c o hc.1 hc.2.2.1 hc.2.2.2.1 hc.2.2.2.2 e
 self:=by
  rintro A i s Q E ⟨hz,_⟩ h
  exact wpAny_pyIter_zip hz h
def iZip(K:PySem.W.Frag)(ta:TA):TI:=fun σ H R=>ta σ H fun vs H1=>∃a b,vs=[V.ref a,V.ref b]∧(∃xs,SqL K H1 a xs)∧(∃ys,SqL K H1 b ys)∧R (Itz K a b) H1
theorem pi_zip{elts:List Expr}{x1:Nat}{tp:Pos}{l:Expr}{ls:List Expr}{ta:TA}{p pos:Pos}(hg:Gl X "zip")(hm:X.mg "zip"=none)(ha:PA X (l::ls) ta)(he:starEach (l::ls) X.env=(false,eval l X.env)::starEach ls X.env)(hpl:(backTo pos (starEach ls X.env)).any (·.1)=false):
  PI X (.Tuple elts x1 tp) (.Call (.Name "zip" p) (l::ls) [] pos) (iZip X.K ta):=by
 intro pins s σ H R I h
 refine wpAny_Call_Name_kw (ld_blt I hg hm (u:= .type "zip") (by kernel_rfl) ?_)
 refine PyProof.Rows.callWith_type1 (thn (ha pos pins s σ H _ I h) fun us s1 ⟨vs,H1,I1,rv,a,b,ev,⟨xs,hp⟩,⟨ys,hq⟩,q⟩=>?_) he hpl
 subst ev
 obtain⟨u1,u2,rfl,e1,e2⟩:=vals2 rv
 cases e1
 cases e2
 obtain⟨us,r1,pl1,z1⟩:=I1.list hp
 obtain⟨ws,r2,pl2,z2⟩:=I1.list hq
 have L1:=pl1.isList
 have L2:=pl2.isList
 have lt1:@LT.lt Nat _ a s1.heap.objs.size:=by obtain⟨o,e,_⟩:=L1;exact Heap.lt_size e
 have lt2:@LT.lt Nat _ b s1.heap.objs.size:=by obtain⟨o,e,_⟩:=L2;exact Heap.lt_size e
 refine call_zip_2 L1 L2 fun h' a1 a2 a3 a4 a5 a6 kp=>wpAny_pyIter_zip a1 ?_
 have D:ZipApart (s1.heap.objs.size+4) (s1.heap.objs.size+2) (s1.heap.objs.size+3) s1.heap.objs.size (s1.heap.objs.size+1) a b:=by
  constructor<;>(show(_:Nat)≠_)<;>omega
 refine⟨s1.heap.objs.size+4,[s1.heap.objs.size+4,s1.heap.objs.size+2,s1.heap.objs.size+3,s1.heap.objs.size,s1.heap.objs.size+1],_,_,H1,rfl,I1.kept (t':=s1.toks) kp,turn_zip _ _ _ _ _ a b D,⟨a1,a2,⟨_,_,a3⟩,a4,a5⟩,fun c hc=>?_,q⟩
 have hb:@LE.le Nat _ s1.heap.objs.size c:=by
  simp only[List.mem_cons,List.not_mem_nil,or_false] at hc
  rcases hc with rfl | rfl | rfl | rfl | rfl
  ·exact Nat.le_add_right _ _
  ·exact Nat.le_add_right _ _
  ·exact Nat.le_add_right _ _
  ·exact Nat.le_refl _
  ·exact Nat.le_add_right _ _
 exact I1.fpOk hb (I1.hok.fresh hb)
end
end L3
namespace U
open PySem PySem.Spec PyProof.Rows L2 L3
inductive D where
 | non | bl (b:Bool) | int (i:Int) | str (x:Str) | tup (ds:List D) | ref (n:Nat) | ty (n:String) | gtup (ds:List D) | cls (a:Addr) | exn (e C dx:Addr) (row:D)
inductive Cell where
 | lst (ds:List D) | frz (ds:List D) | dct (kvs:List (Key×D)) | fdc (kvs:List (Key×D))
abbrev Store:=List Cell
abbrev DEnv:=List (Option D)
abbrev DK:=D→Store→Prop
abbrev DX:=Addr→D→Store→Prop
abbrev DE:=DEnv→Store→DK→Prop
abbrev DA:=DEnv→Store→(List D→Store→Prop)→Prop
abbrev DT:=DEnv→Store→(Bool→Store→Prop)→Prop
abbrev DSp:=List D→Store→DK→DX→Prop
structure DEnds where
 nx:DEnv→Store→Prop
 rt:DK
 bk:DEnv→Store→Prop:=fun _ _=>False
 ct:DEnv→Store→Prop:=fun _ _=>False
abbrev DS:=DEnds→DEnv→Store→Prop
structure Vw where
 K:PySem.W.Frag
 H:Hp
 μ:Nat→Addr
 n:Nat
mutual
def RD(w:Vw):D→V→Prop
 | .non,v=>v= .non
 | .bl b,v=>v= .bl b
 | .int i,v=>v= .int i
 | .str x,v=>v= .str x
 | .tup ds,v=>∃a vs,v= .ref a∧w.H a=some (.tup vs)∧RDs w ds vs
 | .ref i,v=>i<w.n∧v= .ref (w.μ i)
 | .ty n,v=>v= .ty n
 | .gtup ds,v=>∃a vs,v= .ref a∧SqT w.K w.H a vs∧RDs w ds vs
 | .cls a,v=>v= .ref a
 | .exn e C dx row,v=>v= .ref e∧w.H e=some (XO e (.ref C) (some dx))∧∃r,w.H dx=some (.xd [("row",r)])∧RD w row r
def RDs(w:Vw):List D→List V→Prop
 | [],vs=>vs=[]
 | d::ds,vs=>∃v r,vs=v::r∧RD w d v∧RDs w ds r
end
def RKV(w:Vw):List (Key×D)→List (Key×V)→Prop
 | [],vs=>vs=[]
 |(k,d)::ds,vs=>∃v r,vs=(k,v)::r∧RD w d v∧RKV w ds r
def SqF(K:PySem.W.Frag)(H:Hp)(a:Addr)(vs:List V):Prop:=(∃o,H a=some (.frz o (.lst vs)))∨SqL K (fun _=>none) a vs
def Cell.mut:Cell→Bool
 | .frz _=>false
 | _=>true
def RCell(w:Vw):Cell→Addr→Prop
 | .lst ds,a=>∃vs,w.H a=some (.lst vs)∧RDs w ds vs
 | .frz ds,a=>∃vs,SqF w.K w.H a vs∧RDs w ds vs
 | .dct kvs,a=>∃vs,w.H a=some (.dK vs)∧RKV w kvs vs
 | .fdc kvs,a=>∃o vs,w.H a=some (.frz o (.dK vs))∧RKV w kvs vs
structure RS(w:Vw)(M:Store):Prop where
 len:w.n=M.length
 inj:∀(i j:Nat) (ci cj:Cell),M[i]?=some ci→M[j]?=some cj→ci.mut=true→cj.mut=true→w.μ i=w.μ j→i=j
 cell:∀i c,M[i]?=some c→RCell w c (w.μ i)
def Imm:HO→Bool
 | .tup _ | .xd _ | .ext _ | .frz _ _=>true
 | _=>false
structure Ext(w w':Vw):Prop where
 K:w'.K=w.K
 n:w.n≤w'.n
 μ:∀i,i<w.n→w'.μ i=w.μ i
 imm:∀a o,w.H a=some o→Imm o=true→w'.H a=some o
theorem Ext.refl(w:Vw):Ext w w:=⟨rfl,Nat.le_refl _,fun _ _=>rfl,fun _ _ h _=>h⟩
theorem Ext.trans{a b c:Vw}(x:Ext a b)(y:Ext b c):Ext a c:=
 ⟨y.K.trans x.K,Nat.le_trans x.n y.n,fun i h=>(y.μ i (Nat.lt_of_lt_of_le h x.n)).trans (x.μ i h),fun p o h q=>y.imm p o (x.imm p o h q) q⟩
theorem Ext.sqT{w w':Vw}(x:Ext w w'){a:Addr}{vs:List V}(h:SqT w.K w.H a vs):SqT w'.K w'.H a vs:=by
 rw[x.K]
 rcases h with(h | ⟨o,h⟩) | h
 ·exact .inl (.inl (x.imm _ _ h rfl))
 ·exact .inl (.inr ⟨o,x.imm _ _ h rfl⟩)
 ·exact .inr h
mutual
theorem RD.ext{w w':Vw}(x:Ext w w'):∀{d:D} {v:V},RD w d v→RD w' d v
 | .non,v,h=>by unfold RD at *;exact h
 | .bl b,v,h=>by unfold RD at *;exact h
 | .int i,v,h=>by unfold RD at *;exact h
 | .str _,v,h=>by unfold RD at *;exact h
 | .tup ds,v,h=>by
  unfold RD at *
  obtain⟨a,vs,e,q,r⟩:=h
  exact⟨a,vs,e,x.imm _ _ q rfl,RDs.ext x r⟩
 | .ref i,v,h=>by
  unfold RD at *
  exact⟨Nat.lt_of_lt_of_le h.1 x.n,by rw[x.μ i h.1];exact h.2⟩
 | .ty n,v,h=>by unfold RD at *;exact h
 | .gtup ds,v,h=>by
  unfold RD at *
  obtain⟨a,vs,e,q,r⟩:=h
  exact⟨a,vs,e,x.sqT q,RDs.ext x r⟩
 | .cls a,v,h=>by unfold RD at *;exact h
 | .exn e C dx row,v,h=>by
  unfold RD at *
  obtain⟨e1,q,r,q2,q3⟩:=h
  exact⟨e1,x.imm _ _ q rfl,r,x.imm _ _ q2 rfl,RD.ext x q3⟩
theorem RDs.ext{w w':Vw}(x:Ext w w'):∀{ds:List D} {vs:List V},RDs w ds vs→RDs w' ds vs
 | [],vs,h=>by unfold RDs at *;exact h
 | d::ds,vs,h=>by
  unfold RDs at *
  obtain⟨v,r,e,h1,h2⟩:=h
  exact⟨v,r,e,RD.ext x h1,RDs.ext x h2⟩
end
theorem RKV.ext{w w':Vw}(x:Ext w w'):∀{ds:List (Key×D)} {vs:List (Key×V)},RKV w ds vs→RKV w' ds vs
 | [],vs,h=>by unfold RKV at *;exact h
 |(k,d)::ds,vs,h=>by
  unfold RKV at *
  obtain⟨v,r,e,h1,h2⟩:=h
  exact⟨v,r,e,RD.ext x h1,RKV.ext x h2⟩
structure Ext0(w w':Vw):Prop where
 K:w'.K=w.K
 n:w.n≤w'.n
 μ:∀i,i<w.n→w'.μ i=w.μ i
 imm:∀a o,w.H a=some o→Imm o=true→(∀ob kvs,o≠ .frz ob (.dK kvs))→w'.H a=some o
mutual
theorem RD.ext0{w w':Vw}(x:Ext0 w w'):∀{d:D} {v:V},RD w d v→RD w' d v
 | .non,v,h=>by unfold RD at *;exact h
 | .bl b,v,h=>by unfold RD at *;exact h
 | .int i,v,h=>by unfold RD at *;exact h
 | .str _,v,h=>by unfold RD at *;exact h
 | .tup ds,v,h=>by
  unfold RD at *
  obtain⟨a,vs,e,q,r⟩:=h
  exact⟨a,vs,e,x.imm _ _ q rfl (fun _ _ z=>by cases z),RDs.ext0 x r⟩
 | .ref i,v,h=>by
  unfold RD at *
  exact⟨Nat.lt_of_lt_of_le h.1 x.n,by rw[x.μ i h.1];exact h.2⟩
 | .ty n,v,h=>by unfold RD at *;exact h
 | .gtup ds,v,h=>by
  unfold RD at *
  obtain⟨a,vs,e,q,r⟩:=h
  refine⟨a,vs,e,?_,RDs.ext0 x r⟩
  rw[x.K]
  rcases q with(h | ⟨o,h⟩) | h
  ·exact .inl (.inl (x.imm _ _ h rfl (fun _ _ z=>by cases z)))
  ·exact .inl (.inr ⟨o,x.imm _ _ h rfl (fun _ _ z=>by cases z)⟩)
  ·exact .inr h
 | .cls a,v,h=>by unfold RD at *;exact h
 | .exn e C dx row,v,h=>by
  unfold RD at *
  obtain⟨e1,q,r,q2,q3⟩:=h
  exact⟨e1,x.imm _ _ q rfl (fun _ _ z=>by cases z),r,x.imm _ _ q2 rfl (fun _ _ z=>by cases z),RD.ext0 x q3⟩
theorem RDs.ext0{w w':Vw}(x:Ext0 w w'):∀{ds:List D} {vs:List V},RDs w ds vs→RDs w' ds vs
 | [],vs,h=>by unfold RDs at *;exact h
 | d::ds,vs,h=>by
  unfold RDs at *
  obtain⟨v,r,e,h1,h2⟩:=h
  exact⟨v,r,e,RD.ext0 x h1,RDs.ext0 x h2⟩
end
theorem RKV.ext0{w w':Vw}(x:Ext0 w w'):∀{ds:List (Key×D)} {vs:List (Key×V)},RKV w ds vs→RKV w' ds vs
 | [],vs,h=>by unfold RKV at *;exact h
 |(k,d)::ds,vs,h=>by
  unfold RKV at *
  obtain⟨v,r,e,h1,h2⟩:=h
  exact⟨v,r,e,RD.ext0 x h1,RKV.ext0 x h2⟩
theorem RDs.nil(w:Vw):RDs w [] []:=by unfold RDs;rfl
theorem RDs.cons{w:Vw}{d:D}{v:V}{ds:List D}{vs:List V}(h:RD w d v)(r:RDs w ds vs):RDs w (d::ds) (v::vs):=by unfold RDs;exact⟨v,vs,rfl,h,r⟩
theorem RDs.length{w:Vw}:∀{ds:List D} {vs:List V},RDs w ds vs→vs.length=ds.length
 | [],vs,h=>by unfold RDs at h;subst h;rfl
 | d::ds,vs,h=>by
  unfold RDs at h
  obtain⟨v,r,rfl,_,h2⟩:=h
  simp[h2.length]
theorem RDs.get{w:Vw}:∀{ds:List D} {vs:List V} {i:Nat} {d:D},RDs w ds vs→ds[i]?=some d→∃v,vs[i]?=some v∧RD w d v
 | [],vs,i,d,h,e=>by simp at e
 | d::ds,vs,i,d',h,e=>by
  unfold RDs at h
  obtain⟨v,r,rfl,h1,h2⟩:=h
  cases i with
  | zero=>simp at e;subst e;exact⟨v,rfl,h1⟩
  | succ i=>simpa using RDs.get h2 (by simpa using e)
theorem RDs.append{w:Vw}:∀{ds es:List D} {vs us:List V},RDs w ds vs→RDs w es us→RDs w (ds++es) (vs++us)
 | [],es,vs,us,h,g=>by unfold RDs at h;subst h;exact g
 | d::ds,es,vs,us,h,g=>by
  unfold RDs at h
  obtain⟨v,r,rfl,h1,h2⟩:=h
  exact RDs.cons h1 (RDs.append h2 g)
theorem RDs.take{w:Vw}:∀{ds:List D} {vs:List V} (n:Nat),RDs w ds vs→RDs w (ds.take n) (vs.take n)
 | _,_,0,_=>by simp[RDs.nil]
 | [],vs,n+1,h=>by unfold RDs at h;subst h;simp[RDs.nil]
 | d::ds,vs,n+1,h=>by
  unfold RDs at h
  obtain⟨v,r,rfl,h1,h2⟩:=h
  exact RDs.cons h1 (RDs.take n h2)
theorem RDs.drop{w:Vw}:∀{ds:List D} {vs:List V} (n:Nat),RDs w ds vs→RDs w (ds.drop n) (vs.drop n)
 | _,_,0,h=>by simpa using h
 | [],vs,n+1,h=>by unfold RDs at h;subst h;simp[RDs.nil]
 | d::ds,vs,n+1,h=>by
  unfold RDs at h
  obtain⟨v,r,rfl,h1,h2⟩:=h
  simpa using RDs.drop n h2
theorem RDs.set{w:Vw}{d:D}{v:V}(q:RD w d v):∀{ds:List D} {vs:List V} (n:Nat),RDs w ds vs→RDs w (ds.set n d) (vs.set n v)
 | [],vs,n,h=>by unfold RDs at h;subst h;simp[RDs.nil]
 | d::ds,vs,0,h=>by
  unfold RDs at h
  obtain⟨v,r,rfl,h1,h2⟩:=h
  exact RDs.cons q h2
 | d::ds,vs,n+1,h=>by
  unfold RDs at h
  obtain⟨v,r,rfl,h1,h2⟩:=h
  exact RDs.cons h1 (RDs.set q n h2)
def Vw.push(w:Vw)(a:Addr)(o:HO):Vw:=⟨w.K,upd w.H a o,fun i=>if i=w.n then a else w.μ i,w.n+1⟩
def Vw.alloc(w:Vw)(a:Addr)(o:HO):Vw:={w with H:=upd w.H a o}
theorem ext_alloc{w:Vw}{a:Addr}{o:HO}(h:w.H a=none):Ext w (w.alloc a o):=
 ⟨rfl,Nat.le_refl _,fun _ _=>rfl,fun b u q _=>by
  show upd w.H a o b=some u
  rw[upd_ne (by rintro rfl;rw[h] at q;cases q)];exact q⟩
theorem ext_push{w:Vw}{a:Addr}{o:HO}(h:w.H a=none):Ext w (w.push a o):=
 ⟨rfl,Nat.le_succ _,fun i hi=>by show(if i=w.n then a else w.μ i)=_;rw[if_neg (by omega)],fun b u q _=>by
  show upd w.H a o b=some u
  rw[upd_ne (by rintro rfl;rw[h] at q;cases q)];exact q⟩
theorem SqF.stay{w w':Vw}{a:Addr}{vs:List V}(x:Ext w w')(h:SqF w.K w.H a vs):SqF w'.K w'.H a vs:=by
 rcases h with⟨o,h⟩ | h
 ·exact .inl ⟨o,x.imm _ _ h rfl⟩
 ·rw[x.K];exact .inr h
theorem SqF.sq{K:PySem.W.Frag}{H:Hp}{a:Addr}{vs:List V}(h:SqF K H a vs):SqL K H a vs:=by
 rcases h with⟨o,h⟩ | (h | ⟨o,h⟩) | h
 ·exact .inl (.inr ⟨o,h⟩)
 ·cases h
 ·cases h
 ·exact .inr h
theorem RCell.some{w:Vw}{c:Cell}{a:Addr}(hm:c.mut=true)(h:RCell w c a):∃o,w.H a=some o:=by
 cases c with
 | lst ds=>obtain⟨vs,q,_⟩:=h;exact⟨_,q⟩
 | frz ds=>cases hm
 | dct ds=>obtain⟨vs,q,_⟩:=h;exact⟨_,q⟩
 | fdc ds=>obtain⟨o,vs,q,_⟩:=h;exact⟨_,q⟩
theorem RCell.stay{w w':Vw}{c:Cell}{a:Addr}(x:Ext w w')(h:RCell w c a)(k:c.mut=true→w'.H a=w.H a):RCell w' c a:=by
 cases c with
 | lst ds=>obtain⟨vs,q,r⟩:=h;exact⟨vs,(k rfl).trans q,r.ext x⟩
 | frz ds=>obtain⟨vs,q,r⟩:=h;exact⟨vs,q.stay x,r.ext x⟩
 | dct ds=>obtain⟨vs,q,r⟩:=h;exact⟨vs,(k rfl).trans q,r.ext x⟩
 | fdc ds=>obtain⟨o,vs,q,r⟩:=h;exact⟨o,vs,(k rfl).trans q,r.ext x⟩
theorem RS.alloc{w:Vw}{M:Store}{a:Addr}{o:HO}(R:RS w M)(h:w.H a=none):RS (w.alloc a o) M:=
 ⟨R.len,R.inj,fun i c e=>by
  have q:=R.cell i c e
  refine q.stay (ext_alloc h) fun hm=>?_
  obtain⟨u,hu⟩:=q.some hm
  exact upd_ne (fun z=>by have z:w.μ i=a:=z;rw[z,h] at hu;cases hu)⟩
theorem RS.push{w:Vw}{M:Store}{a:Addr}{o:HO}{c:Cell}(R:RS w M)(h:w.H a=none)(new:RCell (w.push a o) c a):RS (w.push a o) (M++[c]):=by
 have old:∀(i:Nat) (ci:Cell),(M++[c])[i]?=some ci→(i=w.n∧ci=c)∨(i<w.n∧M[i]?=some ci):=fun i ci e=>by
  by_cases hi:i<M.length
  ·rw[List.getElem?_append_left hi] at e
   exact .inr ⟨by rw[R.len];exact hi,e⟩
  ·rw[List.getElem?_append_right (by omega)] at e
   have hz:i - M.length=0:=by
    have:=(List.getElem?_eq_some_iff.mp e).1
    simp at this
    omega
   rw[hz] at e
   simp at e
   exact .inl ⟨by rw[R.len];omega,e.symm⟩
 have no:∀(i:Nat) (ci:Cell),M[i]?=some ci→ci.mut=true→w.μ i≠a:=fun i ci e hm z=>by
  obtain⟨u,hu⟩:=(R.cell i ci e).some hm
  rw[z,h] at hu;cases hu
 refine⟨by show w.n+1=_;rw[R.len];simp,fun i j ci cj ei ej mi mj e=>?_,fun i c' e=>?_⟩
 ·change (if i=w.n then a else w.μ i)=(if j=w.n then a else w.μ j) at e
  rcases old i ci ei with⟨h1,_⟩ | ⟨h1,h1'⟩
  ·rcases old j cj ej with⟨h2,_⟩ | ⟨h2,h2'⟩
   ·omega
   ·rw[if_pos h1,if_neg (by omega)] at e
    exact absurd e.symm (no j cj h2' mj)
  ·rcases old j cj ej with⟨h2,_⟩ | ⟨h2,h2'⟩
   ·rw[if_neg (by omega),if_pos h2] at e
    exact absurd e (no i ci h1' mi)
   ·rw[if_neg (by omega),if_neg (by omega)] at e
    exact R.inj i j ci cj h1' h2' mi mj e
 ·show RCell _ c' (if i=w.n then a else w.μ i)
  rcases old i c' e with⟨h1,rfl⟩ | ⟨h1,h1'⟩
  ·rw[if_pos h1];exact new
  ·rw[if_neg (by omega)]
   have q:=R.cell i c' h1'
   exact q.stay (ext_push h) fun hm=>upd_ne (no i c' h1' hm)
theorem ext_write{w:Vw}{a:Addr}{u o:HO}(h:w.H a=some u)(hu:Imm u=false):Ext w (w.alloc a o):=
 ⟨rfl,Nat.le_refl _,fun _ _=>rfl,fun b v q z=>by
  show upd w.H a o b=some v
  rw[upd_ne (by rintro rfl;rw[h] at q;cases q;rw[hu] at z;cases z)];exact q⟩
theorem RS.write{w:Vw}{M:Store}{i:Nat}{u o:HO}{c0 c:Cell}(R:RS w M)(h0:M[i]?=some c0)(hm:c0.mut=true)(hc:c.mut=true)(h:w.H (w.μ i)=some u)(hu:Imm u=false)(new:RCell (w.alloc (w.μ i) o) c (w.μ i)):RS (w.alloc (w.μ i) o) (M.set i c):=by
 have hi:i<M.length:=(List.getElem?_eq_some_iff.mp h0).1
 have old:∀(j:Nat) (cj:Cell),(M.set i c)[j]?=some cj→cj.mut=true→∃cj',M[j]?=some cj'∧cj'.mut=true:=fun j cj e mj=>by
  by_cases h1:j=i
  ·subst h1;exact⟨c0,h0,hm⟩
  ·rw[List.getElem?_set_ne (Ne.symm h1)] at e
   exact⟨cj,e,mj⟩
 refine⟨by show w.n=_;rw[R.len];simp,fun a b ca cb ea eb ma mb e=>?_,fun j c' e=>?_⟩
 ·obtain⟨ca',ea',ma'⟩:=old a ca ea ma
  obtain⟨cb',eb',mb'⟩:=old b cb eb mb
  exact R.inj a b ca' cb' ea' eb' ma' mb' e
 ·by_cases h1:j=i
  ·subst h1
   rw[List.getElem?_set_self hi] at e
   cases e
   exact new
  ·rw[List.getElem?_set_ne (Ne.symm h1)] at e
   have q:=R.cell j c' e
   exact q.stay (ext_write h hu) fun mj=>upd_ne (fun z=>h1 (R.inj j i c' c0 e h0 mj hm z))
theorem ext0_thaw{w:Vw}{a:Addr}{o:Obj}{vs:List (Key×V)}{u:HO}(h:w.H a=some (.frz o (.dK vs))):Ext0 w (w.alloc a u):=
 ⟨rfl,Nat.le_refl _,fun _ _=>rfl,fun b v q _ n=>by
  show upd w.H a u b=some v
  rw[upd_ne (by rintro rfl;rw[h] at q;cases q;exact n _ _ rfl)];exact q⟩
theorem RS.thaw{w:Vw}{M:Store}{i:Nat}{o:Obj}{vs:List (Key×V)}{kvs:List (Key×D)}(R:RS w M)(h0:M[i]?=some (.fdc kvs))(h:w.H (w.μ i)=some (.frz o (.dK vs)))(r:RKV w kvs vs):RS (w.alloc (w.μ i) (.dK vs)) (M.set i (.dct kvs)):=by
 have hi:i<M.length:=(List.getElem?_eq_some_iff.mp h0).1
 have x:=ext0_thaw (u:= .dK vs) h
 have old:∀(j:Nat) (cj:Cell),(M.set i (.dct kvs))[j]?=some cj→cj.mut=true→∃cj',M[j]?=some cj'∧cj'.mut=true:=fun j cj e mj=>by
  by_cases h1:j=i
  ·subst h1;exact⟨_,h0,rfl⟩
  ·rw[List.getElem?_set_ne (Ne.symm h1)] at e
   exact⟨cj,e,mj⟩
 refine⟨by show w.n=_;rw[R.len];simp,fun a b ca cb ea eb ma mb e=>?_,fun j c' e=>?_⟩
 ·obtain⟨ca',ea',ma'⟩:=old a ca ea ma
  obtain⟨cb',eb',mb'⟩:=old b cb eb mb
  exact R.inj a b ca' cb' ea' eb' ma' mb' e
 ·by_cases h1:j=i
  ·subst h1
   rw[List.getElem?_set_self hi] at e
   cases e
   exact⟨vs,upd_same,r.ext0 x⟩
  ·rw[List.getElem?_set_ne (Ne.symm h1)] at e
   have q:=R.cell j c' e
   have ne:c'.mut=true→w.μ j≠w.μ i:=fun mj z=>h1 (R.inj j i c' _ e h0 mj rfl z)
   cases c' with
   | lst ds=>obtain⟨us,q,r⟩:=q;exact⟨us,(upd_ne (ne rfl)).trans q,r.ext0 x⟩
   | dct ds=>obtain⟨us,q,r⟩:=q;exact⟨us,(upd_ne (ne rfl)).trans q,r.ext0 x⟩
   | fdc ds=>obtain⟨o,us,q,r⟩:=q;exact⟨o,us,(upd_ne (ne rfl)).trans q,r.ext0 x⟩
   | frz ds=>
    obtain⟨us,q,r⟩:=q
    refine⟨us,?_,r.ext0 x⟩
    rcases q with⟨o,q⟩ | q
    ·exact .inl ⟨o,x.imm _ _ q rfl (fun _ _ z=>by cases z)⟩
    ·exact .inr q
theorem ext_thaw{w1 w2:Vw}{a:Addr}{u f o:HO}(h:w1.H a=some u)(hu:Imm u=false)(x:Ext (w1.alloc a f) w2):Ext w1 (w2.alloc a o):=
 ⟨x.K,x.n,x.μ,fun b v q z=>by
  have hb:b≠a:=by rintro rfl;rw[h] at q;cases q;rw[hu] at z;cases z
  show upd w2.H a o b=some v
  rw[upd_ne hb]
  exact x.imm b v ((upd_ne hb).trans q) z⟩
inductive Op where
 | add | sub | mul | fdiv | mod | pow | band | bxor
 deriving DecidableEq
inductive Cm where
 | lt | le | gt | ge | eq | ne | is | isin | notin
 deriving DecidableEq
inductive Bf where
 | len | isinst | list1 | dict1 | int1
 deriving DecidableEq
inductive Mt where
 | append | get2 | clear | clearD
 deriving DecidableEq
inductive Ty where
 | int | str | bool | list | tuple | dict | valueError
 deriving DecidableEq
def tyName:Ty→String
 | .int=>"int" | .str=>"str" | .bool=>"bool" | .list=>"list" | .tuple=>"tuple" | .dict=>"dict" | .valueError=>"ValueError"
mutual
inductive E where
 | var (i:Nat) | int (i:Int) | bl (b:Bool) | non | str (x:Str) | ty (x:Ty) | glb (k:Nat)
 | bin (op:Op) (a b:E) | neg (a:E) | not (a:E) | cmp (op:Cm) (a b:E) | bop (isAnd:Bool) (es:Es) | ife (c a b:E)
 | lst (es:Es) | tup (es:Es) | dict0 | dct (a b:E) | dct2 (a b c d:E) | ix (a b:E) | sl (a:E) (lo hi:Eo)
 | call (f:Nat) (es:Es) | bf (b:Bf) (es:Es) | mt (m:Mt) (o:E) (es:Es)
 | comp (N':List Str) (js:List (Option Nat)) (tg:List Nat) (it:It) (cd:Eo) (e:E)
inductive Es where
 | nil | cons (e:E) (r:Es)
inductive Eo where
 | no | yes (e:E)
inductive It where
 | seq (e:E) | rng1 (a:E) | rng2 (a b:E) | enm (e:E) | zip (es:Es)
end
inductive Tk where
 | drop | ret | set (j:Nat)
mutual
inductive S where
 | cont | ret (e:E) | expr (e:E)
 | set (tg:List Nat) (e:E)
 | put (o i v:E)
 | ite (c:E) (a b:Ss) | for_ (tg:List Nat) (it:It) (b:Ss) | forK (tg:List Nat) (e:E) (b:Ss) | while_ (c:E) (b:Ss)
 | raise (k:Nat) (es:Es)
 | tryN (h:Tk) (f:Nat) (es:Es) (g:Nat) (s:Ss)
inductive Ss where
 | nil | cons (s:S) (r:Ss)
end
def readL(M:Store)(n:Nat):Option (List D):=match M[n]? with
 | some (.lst xs)=>some xs
 | some (.frz xs)=>some xs
 | _=>none
def readW(M:Store)(n:Nat):Option (List D):=match M[n]? with
 | some (.lst xs)=>some xs
 | _=>none
def readD(M:Store)(n:Nat):Option (List (Key×D)):=match M[n]? with
 | some (.dct xs)=>some xs
 | _=>none
def readF(M:Store)(n:Nat):Option (List (Key×D)):=match M[n]? with
 | some (.dct xs)=>some xs
 | some (.fdc xs)=>some xs
 | _=>none
def valD(kvs:List (Key×D))(k:Key):Option D:=(kvs.find? fun kv=>decide (kv.1=k)).map (·.2)
def putD(kvs:List (Key×D))(k:Key)(v:D):List (Key×D):=
 if (kvs.any fun kv=>decide (kv.1=k))=true then kvs.map (fun kv=>if kv.1=k then(kv.1,v) else kv) else kvs++[(k,v)]
def keyD:D→Option Key
 | .int i=>some (.inl i)
 | .str x=>some (.inr x)
 | _=>none
def kD:Key→D
 | .inl i=> .int i
 | .inr x=> .str x
def pairD(ps:List (Key×D)):List D:=ps.map fun p=> .tup [kD p.1,p.2]
def foldD(ps:List (Key×D)):List (Key×D):=ps.foldl (fun m p=>putD m p.1 p.2) []
def qdiv(i j:Int):Int:=if 0<j then i / j else i.fdiv j
def qmod(i j:Int):Int:=if 0<j then i % j else i.fmod j
theorem qdiv_eq(i j:Int):i.fdiv j=qdiv i j:=by
 unfold qdiv
 split
 ·exact Int.fdiv_eq_ediv_of_nonneg _ (by omega)
 ·rfl
theorem qmod_eq(i j:Int):i.fmod j=qmod i j:=by
 unfold qmod
 split
 ·exact Int.fmod_eq_emod_of_nonneg _ (by omega)
 ·rfl
theorem qdiv_pos{i j:Int}(h:0<j):qdiv i j=i / j:=if_pos h
theorem qmod_pos{i j:Int}(h:0<j):qmod i j=i % j:=if_pos h
def onInt(x:D)(F:Int→Prop):Prop:=match x with
 | .int i=>F i
 | _=>False
def onBl(x:D)(F:Bool→Prop):Prop:=match x with
 | .bl b=>F b
 | _=>False
def onRef(x:D)(F:Nat→Prop):Prop:=match x with
 | .ref n=>F n
 | _=>False
def onTup(x:D)(F:List D→Prop):Prop:=match x with
 | .tup l=>F l
 | _=>False
def ints2(x y:D)(F:Int→Int→Prop):Prop:=onInt x fun i=>onInt y fun j=>F i j
def at0(l:List D)(P:Prop):Prop:=match l with
 | []=>P
 | _::_=>False
def at1(l:List D)(F:D→Prop):Prop:=match l with
 | []=>False
 | a::r=>at0 r (F a)
def at2(l:List D)(F:D→D→Prop):Prop:=match l with
 | []=>False
 | a::r=>at1 r (F a)
theorem onInt_inv{x:D}{F:Int→Prop}(h:onInt x F):∃i,x= .int i∧F i:=by
 cases x with
 | int i=>exact⟨i,rfl,h⟩
 | _=>exact False.elim h
theorem onBl_inv{x:D}{F:Bool→Prop}(h:onBl x F):∃b,x= .bl b∧F b:=by
 cases x with
 | bl b=>exact⟨b,rfl,h⟩
 | _=>exact False.elim h
theorem onRef_inv{x:D}{F:Nat→Prop}(h:onRef x F):∃n,x= .ref n∧F n:=by
 cases x with
 | ref n=>exact⟨n,rfl,h⟩
 | _=>exact False.elim h
theorem onTup_inv{x:D}{F:List D→Prop}(h:onTup x F):∃l,x= .tup l∧F l:=by
 cases x with
 | tup l=>exact⟨l,rfl,h⟩
 | _=>exact False.elim h
theorem ints2_inv{x y:D}{F:Int→Int→Prop}(h:ints2 x y F):∃i j,x= .int i∧y= .int j∧F i j:=by
 obtain⟨i,rfl,h1⟩:=onInt_inv h
 obtain⟨j,rfl,h2⟩:=onInt_inv h1
 exact⟨i,j,rfl,rfl,h2⟩
theorem at0_inv{l:List D}{P:Prop}(h:at0 l P):l=[]∧P:=by
 cases l with
 | nil=>exact⟨rfl,h⟩
 | cons _ _=>exact False.elim h
theorem at1_inv{l:List D}{F:D→Prop}(h:at1 l F):∃a,l=[a]∧F a:=by
 cases l with
 | nil=>exact False.elim h
 | cons a r=>obtain⟨rfl,h1⟩:=at0_inv h;exact⟨a,rfl,h1⟩
theorem at2_inv{l:List D}{F:D→D→Prop}(h:at2 l F):∃a b,l=[a,b]∧F a b:=by
 cases l with
 | nil=>exact False.elim h
 | cons a r=>obtain⟨b,rfl,h1⟩:=at1_inv h;exact⟨a,b,rfl,h1⟩
def addD(x y:D)(M:Store)(Q:DK):Prop:=match x with
 | .int i=>onInt y fun j=>Q (.int (i+j)) M
 | .str a=>match y with
  | .str b=>a.length+b.length≤sizeLine∧Q (.str (a++b)) M
  | _=>False
 | .tup a=>onTup y fun b=>a≠[]∧a.length+b.length≤sizeLine∧Q (.tup (a++b)) M
 | .ref a=>onRef y fun b=>∃xs ys,readW M a=some xs∧readW M b=some ys∧xs.length+ys.length≤sizeLine∧Q (.ref M.length) (M++[.lst (xs++ys)])
 | _=>False
def mulD(x y:D)(M:Store)(Q:DK):Prop:=match x with
 | .int i=>onInt y fun j=>IntMulOk i j∧Q (.int (i * j)) M
 | .ref a=>onInt y fun k=>∃xs,readW M a=some xs∧0≤k∧k<2 ^ 62∧xs.length * k.toNat≤sizeLine∧Q (.ref M.length) (M++[.lst (List.replicate k.toNat xs).flatten])
 | _=>False
def opD(op:Op)(x y:D)(M:Store)(Q:DK):Prop:=match op with
 | .add=>addD x y M Q
 | .mul=>mulD x y M Q
 | .sub=>ints2 x y fun i j=>Q (.int (i - j)) M
 | .fdiv=>ints2 x y fun i j=>CDivB i j∧Q (.int (qdiv i j)) M
 | .mod=>ints2 x y fun i j=>j≠0∧Q (.int (qmod i j)) M
 | .pow=>ints2 x y fun i j=>CPow i j∧Q (.int (i ^ j.toNat)) M
 | .band=>ints2 x y fun i j=>Q (.int (Builtin.bitAnd i j)) M
 | .bxor=>ints2 x y fun i j=>Q (.int (Builtin.bitXor i j)) M
mutual
def PD(M:Store):PyData→D→Prop
 | .none,d=>d= .non
 | .bool b,d=>d= .bl b
 | .int i,d=>d= .int i
 | .str x,d=>d= .str x
 | .list xs,d=>∃n ds,d= .ref n∧readL M n=some ds∧PDs M xs ds
 | .tuple xs,d=>∃ds,d= .tup ds∧PDs M xs ds
 | .dict _,_=>False
def PDs(M:Store):List PyData→List D→Prop
 | [],ds=>ds=[]
 | x::xs,ds=>∃d r,ds=d::r∧PD M x d∧PDs M xs r
end
def flatD:D→Bool
 | .non | .bl _ | .int _ | .str _=>true
 | _=>false
def eqF:D→D→Bool
 | .non,.non=>true
 | .bl a,.bl b=>a==b
 | .bl a,.int b=>(if a then 1 else 0)==b
 | .int a,.bl b=>a==(if b then 1 else 0)
 | .int a,.int b=>a==b
 | .str a,.str b=>a==b
 | _,_=>false
def inD(x:D)(xs:List D):Bool:=xs.any fun y=>eqF y x
def eqKV(a b:List (Key×D)):Bool:=a.length==b.length&&a.all fun kv=>match valD b kv.1 with
 | some y=>eqF kv.2 y
 | none=>false
def eqD(M:Store):D→D→(Bool→Prop)→Prop
 | .int i,.int j,Q=>Q (decide (i=j))
 | .str i,.str j,Q=>Q (decide (i=j))
 | .bl i,.bl j,Q=>Q (decide (i=j))
 | .non,.non,Q=>Q true
 | .non,.int _,Q=>Q false
 | .int _,.non,Q=>Q false
 | .non,.bl _,Q=>Q false
 | .bl _,.non,Q=>Q false
 | .non,.str _,Q=>Q false
 | .str _,.non,Q=>Q false
 | .int _,.str _,Q=>Q false
 | .str _,.int _,Q=>Q false
 | .bl _,.str _,Q=>Q false
 | .str _,.bl _,Q=>Q false
 | x,y,Q=>(∃da db,PD M da x∧PD M db y∧da.canLay0=true∧db.canLay0=true∧min da.depth db.depth≤60∧Q (PyData.eqv da db))∨
   ∃m n a b,x= .ref m∧y= .ref n∧readD M m=some a∧readD M n=some b∧(a.all fun kv=>flatD kv.2)=true∧(b.all fun kv=>flatD kv.2)=true∧Q (eqKV a b)
def itemsD(M:Store):D→Option (List D)
 | .ref n=>readL M n
 | .tup xs=>some xs
 | .gtup xs=>some xs
 | _=>none
def inQ(M:Store):D→D→(Bool→Prop)→Prop
 | .str a,.str b,Q=>Q (!(Builtin.Str.occurrences b a 0 b.length 1).isEmpty)
 | x,.ref n,Q=>(∃xs,readL M n=some xs∧flatD x=true∧xs.all flatD=true∧Q (inD x xs))∨(∃kvs k,readD M n=some kvs∧keyD x=some k∧Q (valD kvs k).isSome)
 | x,.tup xs,Q=>flatD x=true∧xs.all flatD=true∧Q (inD x xs)
 | x,.gtup xs,Q=>flatD x=true∧xs.all flatD=true∧Q (inD x xs)
 | _,_,_=>False
def nonD(x y:D)(Q:Bool→Prop):Prop:=match y with
 | .non=>match x with
  | .non=>Q true
  | .bl _=>Q false
  | .int _=>Q false
  | .str _=>Q false
  | .tup _=>Q false
  | .ref _=>Q false
  | .exn _ _ _ _=>Q false
  | _=>False
 | _=>False
def cmD(M:Store)(op:Cm)(x y:D)(Q:Bool→Prop):Prop:=match op with
 | .lt=>ints2 x y fun i j=>Q (decide (i<j))
 | .le=>ints2 x y fun i j=>Q (decide (i≤j))
 | .gt=>ints2 x y fun i j=>Q (decide (j<i))
 | .ge=>ints2 x y fun i j=>Q (decide (j≤i))
 | .eq=>eqD M x y Q
 | .ne=>eqD M x y fun b=>Q (!b)
 | .is=>nonD x y Q
 | .isin=>inQ M x y Q
 | .notin=>inQ M x y fun b=>Q (!b)
def truD(M:Store):D→(Bool→Prop)→Prop
 | .non,Q=>Q false
 | .bl b,Q=>Q b
 | .int i,Q=>Q (i !=0)
 | .str x,Q=>x.length≤sizeLine∧Q ((x.length:Int) !=0)
 | .tup xs,Q=>Q (!xs.isEmpty)
 | .ref n,Q=>(∃xs,readL M n=some xs∧Q (!xs.isEmpty))∨(∃xs,readD M n=some xs∧Q (!xs.isEmpty))
 | _,_=>False
def ixD(M:Store):D→D→(D→Prop)→Prop
 | .ref n,k,Q=>(∃xs i d,k= .int i∧readL M n=some xs∧atI xs i=some d∧Q d)∨(∃kvs y d,readF M n=some kvs∧keyD k=some y∧valD kvs y=some d∧Q d)
 | .tup xs,.int i,Q=>∃d,atI xs i=some d∧Q d
 | .gtup xs,.int i,Q=>∃d,atI xs i=some d∧Q d
 | .str z,.int i,Q=>z.length≤sizeLine∧∃c,atI z.cps.toList i=some c∧Q (.str ⟨#[c]⟩)
 | _,_,_=>False
def cutD{α:Type}(xs:List α)(lo hi:Option Int):List α:=(xs.drop (HT.sIx xs.length 0 lo)).take (HT.sIx xs.length xs.length hi - HT.sIx xs.length 0 lo)
def slD:D→Option Int→Option Int→Store→DK→Prop
 | .str z,lo,hi,M,Q=>z.length≤sizeLine∧Q (.str (Txt.slice z lo hi)) M
 | .ref n,lo,hi,M,Q=>∃xs,readL M n=some xs∧Q (.ref M.length) (M++[.lst (cutD xs lo hi)])
 | .tup xs,lo,hi,M,Q=>¬(HT.sIx xs.length 0 lo=0∧HT.sIx xs.length xs.length hi=xs.length)∧Q (.tup (cutD xs lo hi)) M
 | _,_,_,_,_=>False
def tyD(M:Store):D→Option String
 | .non=>some "NoneType"
 | .bl _=>some "bool"
 | .int _=>some "int"
 | .str _=>some "str"
 | .tup _=>some "tuple"
 | .ref n=>match M[n]? with
  | some (.lst _)=>some "list"
  | some (.frz _)=>none
  | some (.dct _)=>some "dict"
  | some (.fdc _)=>none
  | none=>none
 | _=>none
def isD(K:PySem.W.Frag)(M:Store):D→D→(Bool→Prop)→Prop
 | .exn _ C _ _,.cls c,Q=>∃b,ExcIs K C∧PySem.W.kitOne K (.ref C) (.ref c)=some b∧Q b
 | .exn _ C _ _,.ty c,Q=>∃b,ExcIs K C∧PySem.W.kitOne K (.ref C) (.type c)=some b∧Q b
 | .exn _ C _ _,.tup cs,Q=>∃(as:List Addr) (b:Bool),cs=as.map D.cls∧ExcIs K C∧PySem.W.kitAny K (.ref C) (as.map Value.ref)=some b∧Q b
 | d,.ty c,Q=>∃t b,tyD M d=some t∧PySem.W.kitOne K (.type t) (.type c)=some b∧Q b
 | _,_,_=>False
def lenD(x:D)(M:Store)(Q:DK):Prop:=match x with
 | .ref n=>(∃xs,readL M n=some xs∧Q (.int xs.length) M)∨(∃xs,readD M n=some xs∧Q (.int xs.length) M)
 | .tup xs=>Q (.int xs.length) M
 | .str x=>x.length≤sizeLine∧Q (.int x.length) M
 | _=>False
def bfD(K:PySem.W.Frag)(b:Bf)(l:List D)(M:Store)(Q:DK):Prop:=match b with
 | .len=>at1 l fun x=>lenD x M Q
 | .isinst=>at2 l fun d c=>isD K M d c fun b=>Q (.bl b) M
 | .list1=>at1 l fun d=>∃xs,itemsD M d=some xs∧Q (.ref M.length) (M++[.lst xs])
 | .dict1=>at1 l fun x=>onRef x fun n=>(∃xs,readD M n=some xs∧Q (.ref M.length) (M++[.dct xs]))∨(∃ps:List (Key×D),readL M n=some (pairD ps)∧ps.length<sizeLine∧Q (.ref M.length) (M++[.dct (foldD ps)]))
 | .int1=>at1 l fun x=>onBl x fun b=>Q (.int (if b then 1 else 0)) M
def mtD(m:Mt)(o:D)(l:List D)(M:Store)(Q:DK):Prop:=onRef o fun n=>match m with
 | .append=>at1 l fun d=>∃xs,readW M n=some xs∧xs.length<sizeLine∧Q .non (M.set n (.lst (xs++[d])))
 | .clearD=>at0 l (∃kvs,readD M n=some kvs∧Q .non (M.set n (.dct [])))
 | .get2=>at2 l fun k z=>∃kvs y,readD M n=some kvs∧keyD k=some y∧Q ((valD kvs y).getD z) M
 | .clear=>at0 l (∃xs,readW M n=some xs∧Q .non (M.set n (.lst [])))
def mtK(m:Mt)(o:D)(M:Store):Prop:=onRef o fun n=>match m with
 | .clearD=>(readD M n).isSome=true
 | .get2=>(readD M n).isSome=true
 | _=>(readL M n).isSome=true
def tgD:List Nat→D→DEnv→(DEnv→Prop)→Prop
 | [i],d,σ,Q=>Q (σ.set i (some d))
 | is,.tup ds,σ,Q=>ds.length=is.length∧Q ((is.zip ds).foldl (fun σ p=>σ.set p.1 (some p.2)) σ)
 | _,_,_,_=>False
inductive Own where
 | no | lst (n:Nat) | enm (n:Nat) | dct (n:Nat) | two (n m:Nat)
def keysD(kvs:List (Key×D)):List D:=kvs.map fun p=>kD p.1
def thawD(n:Nat)(M:Store)(Q:Store→Prop):Prop:=∃kvs,M[n]?=some (.fdc kvs)∧Q (M.set n (.dct kvs))
def thawR(n:Nat)(R:DEnds):DEnds:={nx:=fun σ M=>thawD n M (R.nx σ),rt:=fun d M=>thawD n M (R.rt d),bk:=fun _ _=>False,ct:=fun _ _=>False}
def enumD(xs:List D):List D:=xs.mapIdx fun i d=> .tup [.int i,d]
def zipT(ys zs:List D):List D:=(ys.zip zs).map fun p=>D.tup [p.1,p.2]
def itD(M:Store):D→(Own→List D→Prop)→Prop
 | .ref n,R=>∃xs,readL M n=some xs∧R (.lst n) xs
 | .tup xs,R=>R .no xs
 | .gtup xs,R=>R .no xs
 | _,_=>False
def intsD(lo:Int)(n:Nat):List D:=(List.range n).map fun(k:Nat)=>D.int (lo+(k:Int))
def still(own:Own)(xs:List D)(M:Store):Prop:=match own with
 | .lst n=>readL M n=some xs
 | .enm n=>∃ys,readL M n=some ys∧xs=enumD ys
 | .dct n=>∃kvs,M[n]?=some (.fdc kvs)∧xs=keysD kvs
 | .two n m=>∃ys zs,readL M n=some ys∧readL M m=some zs∧xs=zipT ys zs
 | .no=>True
def forD(own:Own)(xs:List D)(tg:List Nat)(body:DS):List D→DEnds→DEnv→Store→Prop
 | [],R,σ,M=>still own xs M∧R.nx σ M
 | d::r,R,σ,M=>still own xs M∧tgD tg d σ fun σ'=>body {nx:=fun σ2 M2=>forD own xs tg body r R σ2 M2,rt:=R.rt,bk:=R.nx,ct:=fun σ2 M2=>forD own xs tg body r R σ2 M2} σ' M
def compD(own:Own)(xs:List D)(tg:List Nat)(cd:DT)(el:DE)(z:Nat):List D→DEnv→Store→(Store→Prop)→Prop
 | [],_,M,Q=>still own xs M∧Q M
 | d::r,σ,M,Q=>still own xs M∧tgD tg d σ fun σ'=>cd σ' M fun b M1=>if b=true then
   el σ' M1 fun y M2=>∃acc,readW M2 z=some acc∧acc.length<sizeLine∧compD own xs tg cd el z r σ' (M2.set z (.lst (acc++[y]))) Q
   else compD own xs tg cd el z r σ' M1 Q
def capD(js:List (Option Nat))(σ:DEnv):DEnv:=js.map fun o=>o.bind fun j=>(σ[j]?).join
abbrev noX:DX:=fun _ _ _=>False
structure Cfg where
 K:PySem.W.Frag
 Γ:List DSp
 G:List D
mutual
def te(c:Cfg)(X:DX):E→DE
 | .var i,σ,M,Q=>match σ[i]? with
  | some (some d)=>Q d M
  | _=>False
 | .int i,_,M,Q=>Q (.int i) M
 | .bl b,_,M,Q=>Q (.bl b) M
 | .non,_,M,Q=>Q .non M
 | .str x,_,M,Q=>Q (.str x) M
 | .ty n,_,M,Q=>Q (.ty (tyName n)) M
 | .glb k,_,M,Q=>match c.G[k]? with
  | some d=>Q d M
  | none=>False
 | .bin op a b,σ,M,Q=>te c X a σ M fun x M1=>te c X b σ M1 fun y M2=>opD op x y M2 Q
 | .neg a,σ,M,Q=>te c X a σ M fun x M1=>match x with
  | .int i=>Q (.int (-i)) M1
  | _=>False
 | .not a,σ,M,Q=>te c X a σ M fun x M1=>truD M1 x fun b=>Q (.bl (!b)) M1
 | .cmp op a b,σ,M,Q=>te c X a σ M fun x M1=>te c X b σ M1 fun y M2=>cmD M2 op x y fun r=>Q (.bl r) M2
 | .bop k es,σ,M,Q=>tbop c X k es σ M Q
 | .ife t a b,σ,M,Q=>te c X t σ M fun x M1=>truD M1 x fun r=>if r=true then te c X a σ M1 Q else te c X b σ M1 Q
 | .lst es,σ,M,Q=>tes c X es σ M fun ds M1=>ds.length≤sizeLine∧Q (.ref M1.length) (M1++[.lst ds])
 | .tup es,σ,M,Q=>tes c X es σ M fun ds M1=>ds.length≤sizeLine∧Q (.tup ds) M1
 | .dict0,_,M,Q=>Q (.ref M.length) (M++[.dct []])
 | .dct2 a b d e,σ,M,Q=>te c X a σ (M++[.dct []]) fun x M1=>te c X b σ M1 fun y M2=>te c X d σ M2 fun x2 M3=>te c X e σ M3 fun y2 M4=>∃k k2,keyD x=some k∧keyD x2=some k2∧readD M4 M.length=some []∧Q (.ref M.length) (M4.set M.length (.dct (putD [(k,y)] k2 y2)))
 | .dct a b,σ,M,Q=>te c X a σ (M++[.dct []]) fun x M1=>te c X b σ M1 fun y M2=>∃k,keyD x=some k∧readD M2 M.length=some []∧Q (.ref M.length) (M2.set M.length (.dct [(k,y)]))
 | .ix a b,σ,M,Q=>te c X a σ M fun x M1=>te c X b σ M1 fun y M2=>ixD M2 x y fun d=>Q d M2
 | .sl a lo hi,σ,M,Q=>te c X a σ M fun x M1=>teo c X lo σ M1 fun l M2=>teo c X hi σ M2 fun h M3=>slD x l h M3 Q
 | .call f es,σ,M,Q=>tes c X es σ M fun ds M1=>match c.Γ[f]? with
  | some sp=>sp ds M1 Q X
  | none=>False
 | .bf b es,σ,M,Q=>tes c X es σ M fun ds M1=>bfD c.K b ds M1 Q
 | .mt m o es,σ,M,Q=>te c X o σ M fun x M1=>mtK m x M1∧tes c X es σ M1 fun ds M2=>mtD m x ds M2 Q
 | .comp _ js tg it cd e,σ,M,Q=>tit c X it σ M fun own xs M1=>compD own xs tg (tcd c noX cd) (te c noX e) M1.length xs (capD js σ) (M1++[.lst []]) fun M2=>Q (.ref M1.length) M2
def tbop(c:Cfg)(X:DX)(k:Bool):Es→DE
 | .nil,_,_,_=>False
 | .cons e .nil,σ,M,Q=>te c X e σ M Q
 | .cons e (.cons e2 r),σ,M,Q=>te c X e σ M fun x M1=>truD M1 x fun b=>if b=k then tbop c X k (.cons e2 r) σ M1 Q else Q x M1
def tes(c:Cfg)(X:DX):Es→DA
 | .nil,_,M,Q=>Q [] M
 | .cons e r,σ,M,Q=>te c X e σ M fun d M1=>tes c X r σ M1 fun ds M2=>Q (d::ds) M2
def teo(c:Cfg)(X:DX):Eo→DEnv→Store→(Option Int→Store→Prop)→Prop
 | .no,_,M,Q=>Q none M
 | .yes e,σ,M,Q=>te c X e σ M fun d M1=>match d with
  | .int i=>Q (some i) M1
  | _=>False
def tcd(c:Cfg)(X:DX):Eo→DT
 | .no,_,M,Q=>Q true M
 | .yes e,σ,M,Q=>te c X e σ M fun x M1=>truD M1 x fun b=>Q b M1
def tit(c:Cfg)(X:DX):It→DEnv→Store→(Own→List D→Store→Prop)→Prop
 | .seq e,σ,M,Q=>te c X e σ M fun d M1=>itD M1 d fun own xs=>Q own xs M1
 | .rng1 a,σ,M,Q=>te c X a σ M fun d M1=>match d with
  | .int j=> -(2 ^ 62)≤j∧j<2 ^ 62∧Q .no (intsD 0 j.toNat) M1
  | _=>False
 | .rng2 a b,σ,M,Q=>te c X a σ M fun d M1=>te c X b σ M1 fun d2 M2=>match d,d2 with
  | .int i,.int j=>(-(2 ^ 62)≤i∧i<2 ^ 62∧ -(2 ^ 62)≤j∧j<2 ^ 62)∧Q .no (intsD i (j - i).toNat) M2
  | _,_=>False
 | .enm e,σ,M,Q=>te c X e σ M fun d M1=>match d with
  | .ref n=>∃xs,readL M1 n=some xs∧Q (.enm n) (enumD xs) M1
  | _=>False
 | .zip es,σ,M,Q=>tes c X es σ M fun ds M1=>at2 ds fun a b=>onRef a fun n=>onRef b fun m=>∃ys zs,readL M1 n=some ys∧readL M1 m=some zs∧Q (.two n m) (zipT ys zs) M1
end
def tt(c:Cfg)(X:DX)(e:E):DT:=fun σ M Q=>te c X e σ M fun x M1=>truD M1 x fun b=>Q b M1
def tkD:Tk→DEnds→DEnv→DK
 | .drop,R,σ=>fun _ M=>R.nx σ M
 | .ret,R,_=>R.rt
 | .set j,R,σ=>fun d M=>R.nx (σ.set j (some d)) M
def excD:List D→Option D
 | []=>some .non
 | [d]=>some d
 | _=>none
mutual
def ts(c:Cfg)(X:DX):S→DS
 | .cont,R,σ,M=>R.ct σ M
 | .ret e,R,σ,M=>te c X e σ M R.rt
 | .expr e,R,σ,M=>te c X e σ M fun _ M1=>R.nx σ M1
 | .set tg e,R,σ,M=>te c X e σ M fun d M1=>tgD tg d σ fun σ'=>R.nx σ' M1
 | .put o i v,R,σ,M=>te c X v σ M fun d M1=>te c X o σ M1 fun x M2=>te c X i σ M2 fun y M3=>match x with
  | .ref n=>(∃xs k j,y= .int k∧readW M3 n=some xs∧ixN xs.length k=some j∧R.nx σ (M3.set n (.lst (xs.set j d))))∨
    (∃kvs k,readD M3 n=some kvs∧keyD y=some k∧kvs.length<sizeLine∧R.nx σ (M3.set n (.dct (putD kvs k d))))
  | _=>False
 | .ite t a b,R,σ,M=>tt c X t σ M fun r M1=>if r=true then tss c X a R σ M1 else tss c X b R σ M1
 | .for_ tg it b,R,σ,M=>tit c X it σ M fun own xs M1=>forD own xs tg (tss c X b) xs R σ M1
 | .forK tg e b,R,σ,M=>te c X e σ M fun d M1=>match d with
  | .ref n=>∃kvs,readD M1 n=some kvs∧forD (.dct n) (keysD kvs) tg (tss c X b) (keysD kvs) (thawR n R) σ (M1.set n (.fdc kvs))
  | _=>False
 | .while_ t b,R,σ,M=>∃W:Nat→DEnv→Store→Prop,(∃m,W m σ M)∧∀m σ M,W m σ M→tt c X t σ M fun r M1=>if r=true then
   tss c X b {nx:=fun σ2 M2=>∃m',m'<m∧W m' σ2 M2,rt:=R.rt,bk:=R.nx,ct:=fun σ2 M2=>∃m',m'<m∧W m' σ2 M2} σ M1 else R.nx σ M1
 | .raise k es,_,σ,M=>match c.G[k]? with
  | some (.cls C)=>tes c X es σ M fun ds M1=>match excD ds with
   | some r=>X C r M1
   | none=>False
  | _=>False
 | .tryN h f es g s,R,σ,M=>match c.G[g]? with
  | some (.cls D)=>tes c noX es σ M fun ds M1=>match c.Γ[f]? with
   | some sp=>sp ds M1 (tkD h R σ) fun C _ M2=>Catch c.K C D true∧tss c noX s R σ M2
   | none=>False
  | _=>False
def tss(c:Cfg)(X:DX):Ss→DS
 | .nil,R,σ,M=>R.nx σ M
 | .cons s r,R,σ,M=>ts c X s {R with nx:=fun σ' M'=>tss c X r R σ' M'} σ M
end
def REnv(w:Vw)(σD:DEnv)(σ:L2.St):Prop:=σD.length=σ.length∧∀(i:Nat) d,σD[i]?=some (some d)→∃v,σ[i]?=some (some v)∧RD w d v
theorem REnv.ext{w w':Vw}{σD:DEnv}{σ:L2.St}(h:REnv w σD σ)(x:Ext w w'):REnv w' σD σ:=
 ⟨h.1,fun i d e=>let ⟨v,q,r⟩:=h.2 i d e;⟨v,q,r.ext x⟩⟩
theorem REnv.set{w:Vw}{σD:DEnv}{σ:L2.St}{d:D}{v:V}(h:REnv w σD σ)(i:Nat)(r:RD w d v):REnv w (σD.set i (some d)) (σ.set i (some v)):=by
 refine⟨by simp[h.1],fun j d' e=>?_⟩
 by_cases hj:i=j
 ·subst hj
  by_cases hl:i<σD.length
  ·rw[List.getElem?_set_self hl] at e
   cases e
   exact⟨v,by rw[List.getElem?_set_self (by rw[←h.1];exact hl)],r⟩
  ·rw[List.getElem?_eq_none (by simp;omega)] at e
   cases e
 ·rw[List.getElem?_set_ne hj] at e
  rw[List.getElem?_set_ne hj]
  exact h.2 j d' e
structure StOk(w0 w:Vw)(σD:DEnv)(M:Store)(σ:L2.St)(H:Hp):Prop where
 heap:w.H=H
 ext:Ext w0 w
 rs:RS w M
 env:REnv w σD σ
theorem StOk.next{w0 w w':Vw}{σD:DEnv}{M M':Store}{σ:L2.St}{H:Hp}(s:StOk w0 w σD M σ H)(x:Ext w w')(r:RS w' M'):StOk w0 w' σD M' σ w'.H:=
 ⟨rfl,s.ext.trans x,r,s.env.ext x⟩
def Aft(w:Vw)(QD:DK)(Q:VK):Prop:=∀v w' d M',Ext w w'→RS w' M'→RD w' d v→QD d M'→Q v w'.H
def tF(w0:Vw)(f:DE):TE:=fun σ H Q=>∃w σD M QD,StOk w0 w σD M σ H∧f σD M QD∧Aft w QD Q
def tFA(w0:Vw)(f:DA):TA:=fun σ H Q=>∃w σD M QD,StOk w0 w σD M σ H∧f σD M QD∧∀vs w' ds M',Ext w w'→RS w' M'→RDs w' ds vs→QD ds M'→Q vs w'.H
def tFT(w0:Vw)(f:DT):TT:=fun σ H Q=>∃w σD M QD,StOk w0 w σD M σ H∧f σD M QD∧∀b w' M',Ext w w'→RS w' M'→QD b M'→Q b w'.H
def tFO(w0:Vw)(f:DEnv→Store→(Option Int→Store→Prop)→Prop):TO:=fun σ H Q=>∃w σD M QD,StOk w0 w σD M σ H∧f σD M QD∧∀b w' M',Ext w w'→RS w' M'→QD b M'→Q b w'.H
def tFS(w0:Vw)(f:DS):TS:=fun R σ H=>∃w σD M RD',StOk w0 w σD M σ H∧f RD' σD M∧
 (∀σ' w' σD' M',Ext w w'→RS w' M'→REnv w' σD' σ'→RD'.nx σD' M'→R.nx σ' w'.H)∧Aft w RD'.rt R.rt∧
 (∀σ' w' σD' M',Ext w w'→RS w' M'→REnv w' σD' σ'→RD'.bk σD' M'→R.bk σ' w'.H)∧
 (∀σ' w' σD' M',Ext w w'→RS w' M'→REnv w' σD' σ'→RD'.ct σD' M'→R.ct σ' w'.H)
def xkOf(w:Vw)(Z:DX):XK:=fun cls dd H'=>∃C dx r w' row M',cls= .ref C∧dd=some dx∧w'.H=H'∧Ext w w'∧RS w' M'∧H' dx=some (.xd [("row",r)])∧RD w' row r∧Z C row M'
def spF(K:PySem.W.Frag)(sp:DSp):Sp:=fun vs H Q E=>∃w ds M QD Z,w.K=K∧w.H=H∧RS w M∧RDs w ds vs∧sp ds M QD Z∧Aft w QD Q∧∀cls dd H',xkOf w Z cls dd H'→E cls dd H'
theorem Aft.ext{w w':Vw}{QD:DK}{Q:VK}(h:Aft w QD Q)(x:Ext w w'):Aft w' QD Q:=fun v w2 d M y r q p=>h v w2 d M (x.trans y) r q p
section
variable{X:Cx}{e:Expr}{w0:Vw}
theorem PE.imp{t t':TE}(h:PE X e t)(k:∀σ H Q,t' σ H Q→t σ H Q):PE X e t':=fun pins s σ H Q I q=>h pins s σ H Q I (k σ H Q q)
theorem PT.imp{t t':TT}(h:PT X e t)(k:∀σ H Q,t' σ H Q→t σ H Q):PT X e t':=fun pins s σ H Q I q=>h pins s σ H Q I (k σ H Q q)
theorem PA.imp{es:List Expr}{t t':TA}(h:PA X es t)(k:∀σ H Q,t' σ H Q→t σ H Q):PA X es t':=fun pos pins s σ H Q I q=>h pos pins s σ H Q I (k σ H Q q)
theorem PS.imp{st:Stmt}{t t':TS}(h:PS X st t)(k:∀R σ H,t' R σ H→t R σ H):PS X st t':=fun pins s σ H R I q=>h pins s σ H R I (k R σ H q)
theorem PSs.imp{st:List Stmt}{t t':TS}(h:PSs X st t)(k:∀R σ H,t' R σ H→t R σ H):PSs X st t':=fun pins s σ H R I q=>h pins s σ H R I (k R σ H q)
end
def rF(w0:Vw)(g:D→D→Store→DK→Prop):R2:=fun x y H Q=>∃w M dx dy QD,w.H=H∧Ext w0 w∧RS w M∧RD w dx x∧RD w dy y∧g dx dy M QD∧Aft w QD Q
theorem rd_int{w:Vw}{i:Int}{v:V}:RD w (.int i) v↔v= .int i:=by unfold RD;exact Iff.rfl
theorem rd_str{w:Vw}{i:Str}{v:V}:RD w (.str i) v↔v= .str i:=by unfold RD;exact Iff.rfl
theorem rd_bl{w:Vw}{i:Bool}{v:V}:RD w (.bl i) v↔v= .bl i:=by unfold RD;exact Iff.rfl
theorem rd_non{w:Vw}{v:V}:RD w .non v↔v= .non:=by unfold RD;exact Iff.rfl
theorem rd_ty{w:Vw}{n:String}{v:V}:RD w (.ty n) v↔v= .ty n:=by unfold RD;exact Iff.rfl
theorem rd_cls{w:Vw}{n:Addr}{v:V}:RD w (.cls n) v↔v= .ref n:=by unfold RD;exact Iff.rfl
theorem rd_ref{w:Vw}{i:Nat}{v:V}:RD w (.ref i) v↔i<w.n∧v= .ref (w.μ i):=by unfold RD;exact Iff.rfl
theorem rd_tup{w:Vw}{ds:List D}{v:V}:RD w (.tup ds) v↔∃a vs,v= .ref a∧w.H a=some (.tup vs)∧RDs w ds vs:=by unfold RD;exact Iff.rfl
theorem rd_gtup{w:Vw}{ds:List D}{v:V}:RD w (.gtup ds) v↔∃a vs,v= .ref a∧SqT w.K w.H a vs∧RDs w ds vs:=by unfold RD;exact Iff.rfl
theorem rd_exn{w:Vw}{e C dx:Addr}{row:D}{v:V}:RD w (.exn e C dx row) v↔v= .ref e∧w.H e=some (XO e (.ref C) (some dx))∧∃r,w.H dx=some (.xd [("row",r)])∧RD w row r:=Iff.of_eq (by rw[RD])
theorem RDs.empty{w:Vw}{ds:List D}(h:RDs w ds []):ds=[]:=by
 have:=h.length
 exact List.length_eq_zero_iff.mp this.symm
theorem readW_L{M:Store}{n:Nat}{xs:List D}(h:readW M n=some xs):readL M n=some xs:=by
 unfold readW at h
 unfold readL
 split at h
 ·rename_i e;rw[e];exact h
 ·cases h
theorem readW_at{M:Store}{n:Nat}{xs:List D}(h:readW M n=some xs):M[n]?=some (.lst xs):=by
 unfold readW at h
 split at h
 ·rename_i e;rw[e];cases h;rfl
 ·cases h
theorem readD_at{M:Store}{n:Nat}{xs:List (Key×D)}(h:readD M n=some xs):M[n]?=some (.dct xs):=by
 unfold readD at h
 split at h
 ·rename_i e;rw[e];cases h;rfl
 ·cases h
theorem RS.list{w:Vw}{M:Store}{n:Nat}{xs:List D}(R:RS w M)(h:readW M n=some xs):M[n]?=some (.lst xs)∧∃vs,w.H (w.μ n)=some (.lst vs)∧RDs w xs vs:=
 ⟨readW_at h,R.cell n _ (readW_at h)⟩
theorem RS.listL{w:Vw}{M:Store}{n:Nat}{xs:List D}(R:RS w M)(h:readL M n=some xs):n<w.n∧∃vs,SqL w.K w.H (w.μ n) vs∧RDs w xs vs∧True:=by
 unfold readL at h
 split at h
 ·rename_i ys e
  cases h
  obtain⟨vs,q,r⟩:=R.cell n _ e
  exact⟨by rw[R.len];exact(List.getElem?_eq_some_iff.mp e).1,vs,.inl (.inl q),r,trivial⟩
 ·rename_i ys e
  cases h
  obtain⟨vs,q,r⟩:=R.cell n _ e
  exact⟨by rw[R.len];exact(List.getElem?_eq_some_iff.mp e).1,vs,q.sq,r,trivial⟩
 ·cases h
theorem readD_F{M:Store}{n:Nat}{xs:List (Key×D)}(h:readD M n=some xs):readF M n=some xs:=by
 unfold readF;rw[readD_at h]
theorem RS.dictF{w:Vw}{M:Store}{n:Nat}{xs:List (Key×D)}(R:RS w M)(h:readF M n=some xs):∃vs,Rd w.H (w.μ n) (.dK vs)∧RKV w xs vs:=by
 unfold readF at h
 split at h
 ·rename_i ys e
  cases h
  obtain⟨vs,q1,q2⟩:=R.cell n _ e
  exact⟨vs,.inl q1,q2⟩
 ·rename_i ys e
  cases h
  obtain⟨o,vs,q1,q2⟩:=R.cell n _ e
  exact⟨vs,.inr ⟨o,q1⟩,q2⟩
 ·cases h
theorem RS.dict{w:Vw}{M:Store}{n:Nat}{xs:List (Key×D)}(R:RS w M)(h:readD M n=some xs):M[n]?=some (.dct xs)∧∃vs,w.H (w.μ n)=some (.dK vs)∧RKV w xs vs:=
 ⟨readD_at h,R.cell n _ (readD_at h)⟩
theorem new_list{w:Vw}{M:Store}{p:Addr}{xs:List D}{vs:List V}(R:RS w M)(hp:w.H p=none)(r:RDs w xs vs):Ext w (w.push p (.lst vs))∧RS (w.push p (.lst vs)) (M++[.lst xs])∧RD (w.push p (.lst vs)) (.ref M.length) (.ref p):=by
 refine⟨ext_push hp,R.push hp ⟨vs,upd_same,r.ext (ext_push hp)⟩,rd_ref.mpr ⟨?_,?_⟩⟩
 ·show M.length<w.n+1
  rw[R.len];omega
 ·show V.ref p=V.ref (if M.length=w.n then p else w.μ M.length)
  rw[if_pos R.len.symm]
theorem new_dict{w:Vw}{M:Store}{p:Addr}{xs:List (Key×D)}{vs:List (Key×V)}(R:RS w M)(hp:w.H p=none)(r:RKV w xs vs):Ext w (w.push p (.dK vs))∧RS (w.push p (.dK vs)) (M++[.dct xs])∧RD (w.push p (.dK vs)) (.ref M.length) (.ref p):=by
 refine⟨ext_push hp,R.push hp ⟨vs,upd_same,r.ext (ext_push hp)⟩,rd_ref.mpr ⟨?_,?_⟩⟩
 ·show M.length<w.n+1
  rw[R.len];omega
 ·show V.ref p=V.ref (if M.length=w.n then p else w.μ M.length)
  rw[if_pos R.len.symm]
theorem new_tup{w:Vw}{M:Store}{p:Addr}{xs:List D}{vs:List V}(R:RS w M)(hp:w.H p=none)(r:RDs w xs vs):Ext w (w.alloc p (.tup vs))∧RS (w.alloc p (.tup vs)) M∧RD (w.alloc p (.tup vs)) (.tup xs) (.ref p):=
 ⟨ext_alloc hp,R.alloc hp,rd_tup.mpr ⟨p,vs,rfl,upd_same,r.ext (ext_alloc hp)⟩⟩
theorem write_list{w:Vw}{M:Store}{n:Nat}{us vs:List V}{ys xs:List D}(R:RS w M)(hn:M[n]?=some (.lst ys))(h:w.H (w.μ n)=some (.lst us))(r:RDs w xs vs):Ext w (w.alloc (w.μ n) (.lst vs))∧RS (w.alloc (w.μ n) (.lst vs)) (M.set n (.lst xs)):=
 ⟨ext_write h rfl,R.write hn rfl rfl h rfl ⟨vs,upd_same,r.ext (ext_write h rfl)⟩⟩
theorem write_dict{w:Vw}{M:Store}{n:Nat}{us vs:List (Key×V)}{ys xs:List (Key×D)}(R:RS w M)(hn:M[n]?=some (.dct ys))(h:w.H (w.μ n)=some (.dK us))(r:RKV w xs vs):Ext w (w.alloc (w.μ n) (.dK vs))∧RS (w.alloc (w.μ n) (.dK vs)) (M.set n (.dct xs)):=
 ⟨ext_write h rfl,R.write hn rfl rfl h rfl ⟨vs,upd_same,r.ext (ext_write h rfl)⟩⟩
section
variable{X:Cx}{w0:Vw}
theorem opF_int{f:Value→Value→Sem Value}{g:Int→Int→V}{o:D→D→Store→DK→Prop}{C:Int→Int→Prop}{k:Int→Int→D}(h:OpR X f (rI C g))(hk:∀w i j,RD w (k i j) (g i j))
  {pins:List (Addr×Obj)} {s:Shared} {σ:L2.St} {x y:V} {v u:Value} {Q:VK} {w:Vw} {M:Store} {QD:DK} {i j:Int} (I:Inv X pins σ w.H s) (rx:RelV x v) (ry:RelV y u) (R:RS w M) (hx:RD w (.int i) x) (hy:RD w (.int j) y)
  (hc:C i j) (q:QD (k i j) M) (a:Aft w QD Q):wpAny (model X.prog X.w) X.A (f v u) (EP X pins σ Q) X.xe s:=by
 cases rd_int.mp hx
 cases rd_int.mp hy
 exact h pins s σ w.H _ _ v u Q I rx ry ⟨i,j,rfl,rfl,hc,a _ w _ M (Ext.refl w) R (hk w i j) q⟩
def opOf:Op→Operator
 | .add=> .Add | .sub=> .Sub | .mul=> .Mult | .fdiv=> .FloorDiv | .mod=> .Mod | .pow=> .Pow | .band=> .BitAnd | .bxor=> .BitXor
theorem rI0_I{f:Value→Value→Sem Value}{g:Int→Int→V}(h:OpR X f (rI0 g)):OpR X f (rI (fun _ _=>True) g):=fun pins s σ H x y v u Q I rx ry ⟨i,j,e1,e2,_,q⟩=>h pins s σ H x y v u Q I rx ry ⟨i,j,e1,e2,q⟩
theorem RDs.rep{w:Vw}{xs:List D}{vs:List V}(h:RDs w xs vs):∀n:Nat,RDs w (List.replicate n xs).flatten (List.replicate n vs).flatten
 | 0=>RDs.nil w
 | n+1=>by
  rw[List.replicate_succ,List.replicate_succ,List.flatten_cons,List.flatten_cons]
  exact h.append (RDs.rep h n)
theorem op_sound(op:Op):OpR X (binaryOp (opOf op)) (rF w0 (opD op)):=by
 intro pins s σ H x y v u Q I rx ry h
 obtain⟨w,M,dx,dy,QD,rfl,e0,R,hx,hy,g,a⟩:=h
 have ri:∀w (i:Int),RD w (.int i) (.int i):=fun w i=>rd_int.mpr rfl
 cases op with
 | add=>
  cases dx with
  | int i=>
   obtain⟨j,rfl,g2⟩:=onInt_inv g;clear g;have g:=g2
   exact opF_int (o:=opD .add) (C:=fun _ _=>True) (k:=fun i j=> .int (i+j)) (rI0_I op_add) (fun w i j=>ri w _) I rx ry R hx hy trivial g a
  | str z=>
   cases dy with
   | str z2=>
    cases rd_str.mp hx;cases rd_str.mp hy
    exact op_add_str pins s σ w.H _ _ v u Q I rx ry ⟨_,_,rfl,rfl,g.1,a _ w _ M (Ext.refl w) R (rd_str.mpr rfl) g.2⟩
   | _=>exact False.elim g
  | tup l=>
   obtain⟨l2,rfl,g2⟩:=onTup_inv g;clear g;have g:=g2
   obtain⟨a1,vs1,rfl,h1,r1⟩:=rd_tup.mp hx
   obtain⟨a2,vs2,rfl,h2,r2⟩:=rd_tup.mp hy
   obtain⟨g1,g2,g3⟩:=g
   refine op_catT pins s σ w.H _ _ v u Q I rx ry ⟨a1,a2,vs1,vs2,rfl,rfl,.of h1,.of h2,?_,by rw[r1.length,r2.length];exact g2,fun z=>?_,fun _ p hp=>?_⟩
   ·intro z;subst z;have:=r1.length;simp at this;exact g1 (List.length_eq_zero_iff.mp this.symm)
   ·subst z
    cases r2.empty
    rw[List.append_nil] at g3
    exact a _ w _ M (Ext.refl w) R hx g3
   ·obtain⟨x1,x2,x3⟩:=new_tup R hp (r1.append r2)
    exact a _ _ _ M x1 x2 x3 g3
  | ref n=>
   obtain⟨n2,rfl,g2⟩:=onRef_inv g;clear g;have g:=g2
   obtain⟨h1,rfl⟩:=rd_ref.mp hx
   obtain⟨h2,rfl⟩:=rd_ref.mp hy
   obtain⟨xs,ys,g1,g2,g3,g4⟩:=g
   obtain⟨_,vs1,q1,r1⟩:=R.list g1
   obtain⟨_,vs2,q2,r2⟩:=R.list g2
   refine op_cat pins s σ w.H _ _ v u Q I rx ry ⟨_,_,vs1,vs2,rfl,rfl,q1,q2,by rw[r1.length,r2.length];exact g3,fun p hp=>?_⟩
   obtain⟨x1,x2,x3⟩:=new_list R hp (r1.append r2)
   exact a _ _ _ _ x1 x2 x3 g4
  | _=>exact False.elim g
 | mul=>
  cases dx with
  | int i=>
   obtain⟨j,rfl,g2⟩:=onInt_inv g;clear g;have g:=g2
   exact opF_int (o:=opD .add) (C:=IntMulOk) (k:=fun i j=> .int (i * j)) op_mulB (fun w i j=>ri w _) I rx ry R hx hy g.1 g.2 a
  | ref n=>
   obtain⟨k,rfl,g2⟩:=onInt_inv g;clear g;have g:=g2
   obtain⟨h1,rfl⟩:=rd_ref.mp hx
   cases rd_int.mp hy
   obtain⟨xs,g1,g2,g3,g4,g5⟩:=g
   obtain⟨_,vs1,q1,r1⟩:=R.list g1
   refine op_rep pins s σ w.H _ _ v u Q I rx ry ⟨_,_,vs1,rfl,rfl,q1,by omega,by omega,by rw[r1.length];exact g4,fun p hp=>?_⟩
   obtain⟨x1,x2,x3⟩:=new_list R hp (r1.rep _)
   exact a _ _ _ _ x1 x2 x3 g5
  | _=>exact False.elim g
 | sub=>
  obtain⟨i,j,rfl,rfl,g2⟩:=ints2_inv g;clear g;have g:=g2
  exact opF_int (o:=opD .add) (C:=fun _ _=>True) (k:=fun i j=> .int (i - j)) (rI0_I op_sub) (fun w i j=>ri w _) I rx ry R hx hy trivial g a
 | fdiv=>
  obtain⟨i,j,rfl,rfl,g2⟩:=ints2_inv g;clear g;have g:=g2
  exact opF_int (o:=opD .add) (C:=CDivB) (k:=fun i j=> .int (qdiv i j)) op_fdivB (fun w i j=>by rw[qdiv_eq];exact ri w _) I rx ry R hx hy g.1 g.2 a
 | mod=>
  obtain⟨i,j,rfl,rfl,g2⟩:=ints2_inv g;clear g;have g:=g2
  exact opF_int (o:=opD .add) (C:=fun _ j=>j≠0) (k:=fun i j=> .int (qmod i j)) op_modN (fun w i j=>by rw[qmod_eq];exact ri w _) I rx ry R hx hy g.1 g.2 a
 | pow=>
  obtain⟨i,j,rfl,rfl,g2⟩:=ints2_inv g;clear g;have g:=g2
  exact opF_int (o:=opD .add) (C:=CPow) (k:=fun i j=> .int (i ^ j.toNat)) op_pow (fun w i j=>ri w _) I rx ry R hx hy g.1 g.2 a
 | band=>
  obtain⟨i,j,rfl,rfl,g2⟩:=ints2_inv g;clear g;have g:=g2
  exact opF_int (o:=opD .add) (C:=fun _ _=>True) (k:=fun i j=> .int (Builtin.bitAnd i j)) (rI0_I op_and) (fun w i j=>ri w _) I rx ry R hx hy trivial g a
 | bxor=>
  obtain⟨i,j,rfl,rfl,g2⟩:=ints2_inv g;clear g;have g:=g2
  exact opF_int (o:=opD .add) (C:=fun _ _=>True) (k:=fun i j=> .int (Builtin.bitXor i j)) (rI0_I op_xor) (fun w i j=>ri w _) I rx ry R hx hy trivial g a
end
def rB(w0:Vw)(g:Store→D→D→(Bool→Prop)→Prop):R2:=fun x y H Q=>∃w M dx dy QD,w.H=H∧w.K=w0.K∧RS w M∧RD w dx x∧RD w dy y∧g M dx dy QD∧∀b,QD b→Q (.bl b) H
mutual
theorem rep_of{w:Vw}{M:Store}(R:RS w M):∀(da:PyData) {d:D} {v:V},PD M da d→RD w d v→Rep w.K w.H da v
 | .none,d,v,h,r=>by unfold PD at h;subst h;unfold Rep;exact rd_non.mp r
 | .bool b,d,v,h,r=>by unfold PD at h;subst h;unfold Rep;exact rd_bl.mp r
 | .int b,d,v,h,r=>by unfold PD at h;subst h;unfold Rep;exact rd_int.mp r
 | .str b,d,v,h,r=>by unfold PD at h;subst h;unfold Rep;exact rd_str.mp r
 | .list xs,d,v,h,r=>by
  unfold PD at h
  obtain⟨n,ds,rfl,h1,h2⟩:=h
  obtain⟨_,rfl⟩:=rd_ref.mp r
  obtain⟨_,vs,q1,q2,_⟩:=R.listL h1
  unfold Rep
  exact⟨_,vs,rfl,q1,repAll_of R xs h2 q2⟩
 | .tuple xs,d,v,h,r=>by
  unfold PD at h
  obtain⟨ds,rfl,h2⟩:=h
  obtain⟨a,vs,rfl,q1,q2⟩:=rd_tup.mp r
  unfold Rep
  exact⟨_,vs,rfl,.of q1,repAll_of R xs h2 q2⟩
 | .dict _,d,v,h,r=>by unfold PD at h;exact h.elim
theorem repAll_of{w:Vw}{M:Store}(R:RS w M):∀(xs:List PyData) {ds:List D} {vs:List V},PDs M xs ds→RDs w ds vs→RepAll w.K w.H xs vs
 | [],ds,vs,h,r=>by unfold PDs at h;subst h;unfold RDs at r;unfold RepAll;exact r
 | x::xs,ds,vs,h,r=>by
  unfold PDs at h
  obtain⟨d,r',rfl,h1,h2⟩:=h
  unfold RDs at r
  obtain⟨v,r2,rfl,q1,q2⟩:=r
  unfold RepAll
  exact⟨v,r2,rfl,rep_of R x h1 q1,repAll_of R xs h2 q2⟩
end
theorem flat_rel{w:Vw}{d:D}{v:V}(f:flatD d=true)(r:RD w d v):flatV v=true:=by
 cases d<;>simp[flatD] at f
 ·cases rd_non.mp r;rfl
 ·cases rd_bl.mp r;rfl
 ·cases rd_int.mp r;rfl
 ·cases rd_str.mp r;rfl
theorem eqF_rel{w:Vw}{d e:D}{v u:V}(f:flatD d=true)(g:flatD e=true)(r:RD w d v)(q:RD w e u):eqV v u=eqF d e:=by
 cases d<;>simp[flatD] at f
 all_goals (cases e<;>simp[flatD] at g)
 all_goals first
  |(first | cases rd_non.mp r | cases rd_bl.mp r | cases rd_int.mp r | cases rd_str.mp r)
 all_goals first
  |(first | cases rd_non.mp q | cases rd_bl.mp q | cases rd_int.mp q | cases rd_str.mp q)
 all_goals rfl
theorem in_rel{w:Vw}{x:D}{v:V}(f:flatD x=true)(r:RD w x v):∀{ds:List D} {vs:List V},ds.all flatD=true→RDs w ds vs→inV v vs=inD x ds∧vs.all flatV=true
 | [],vs,_,h=>by unfold RDs at h;subst h;exact⟨rfl,rfl⟩
 | d::ds,vs,g,h=>by
  unfold RDs at h
  obtain⟨v1,r1,rfl,h1,h2⟩:=h
  simp only[List.all_cons,Bool.and_eq_true] at g
  obtain⟨i1,i2⟩:=in_rel f r g.2 h2
  refine⟨?_,by simp only[List.all_cons,Bool.and_eq_true];exact⟨flat_rel g.1 h1,i2⟩⟩
  unfold inV inD at *
  rw[List.any_cons,List.any_cons,eqF_rel g.1 f h1 r,i1]
theorem RKV.val{w:Vw}:∀{ds:List (Key×D)} {vs:List (Key×V)} (k:Key),RKV w ds vs→(valD ds k=none∧valV vs k=none)∨∃d v,valD ds k=some d∧valV vs k=some v∧RD w d v
 | [],vs,k,h=>by unfold RKV at h;subst h;exact .inl ⟨rfl,rfl⟩
 |(k',d)::ds,vs,k,h=>by
  unfold RKV at h
  obtain⟨v,r,rfl,h1,h2⟩:=h
  by_cases e:k'=k
  ·exact .inr ⟨d,v,by simp[valD,List.find?_cons,e],by simp[valV,List.find?_cons,e],h1⟩
  ·have:=RKV.val k h2
   simpa[valD,valV,List.find?_cons,e] using this
theorem RKV.length{w:Vw}:∀{ds:List (Key×D)} {vs:List (Key×V)},RKV w ds vs→vs.length=ds.length
 | [],vs,h=>by unfold RKV at h;subst h;rfl
 |(k',d)::ds,vs,h=>by
  unfold RKV at h
  obtain⟨v,r,rfl,h1,h2⟩:=h
  simp[RKV.length h2]
theorem RKV.any{w:Vw}(k:Key):∀{ds:List (Key×D)} {vs:List (Key×V)},RKV w ds vs→(vs.any fun kv=>decide (kv.1=k))=(ds.any fun kv=>decide (kv.1=k))
 | [],vs,h=>by unfold RKV at h;subst h;rfl
 |(k',d)::ds,vs,h=>by
  unfold RKV at h
  obtain⟨v,r,rfl,h1,h2⟩:=h
  simp[RKV.any k h2]
theorem RKV.repl{w:Vw}{k:Key}{d:D}{v:V}(q:RD w d v):∀{ds:List (Key×D)} {vs:List (Key×V)},RKV w ds vs→RKV w (ds.map fun kv=>if kv.1=k then(kv.1,d) else kv) (vs.map fun kv=>if kv.1=k then(kv.1,v) else kv)
 | [],vs,h=>by unfold RKV at h;subst h;unfold RKV;rfl
 |(k',d')::ds,vs,h=>by
  unfold RKV at h
  obtain⟨v',r,rfl,h1,h2⟩:=h
  simp only[List.map_cons]
  by_cases e:k'=k
  ·rw[if_pos e,if_pos e]
   unfold RKV
   exact⟨v,_,rfl,q,RKV.repl q h2⟩
  ·rw[if_neg e,if_neg e]
   unfold RKV
   exact⟨v',_,rfl,h1,RKV.repl q h2⟩
theorem RKV.snoc{w:Vw}{k:Key}{d:D}{v:V}(q:RD w d v):∀{ds:List (Key×D)} {vs:List (Key×V)},RKV w ds vs→RKV w (ds++[(k,d)]) (vs++[(k,v)])
 | [],vs,h=>by unfold RKV at h;subst h;unfold RKV;exact⟨v,[],rfl,q,by unfold RKV;rfl⟩
 |(k',d')::ds,vs,h=>by
  unfold RKV at h
  obtain⟨v',r,rfl,h1,h2⟩:=h
  show RKV w ((k',d')::(ds++[(k,d)])) _
  unfold RKV
  exact⟨v',_,rfl,h1,RKV.snoc q h2⟩
theorem RKV.put{w:Vw}{k:Key}{d:D}{v:V}(q:RD w d v){ds:List (Key×D)}{vs:List (Key×V)}(h:RKV w ds vs):RKV w (putD ds k d) (putK vs k v):=by
 unfold putD putK
 rw[h.any k]
 split
 ·exact h.repl q
 ·exact h.snoc q
theorem keyD_kV{w:Vw}{d:D}{k:Key}{v:V}(h:keyD d=some k)(r:RD w d v):v=kV k:=by
 cases d<;>simp[keyD] at h
 ·subst h;exact rd_int.mp r
 ·subst h;exact rd_str.mp r
section
variable{X:Cx}{w0:Vw}
def cmOf:Cm→CmpOp
 | .lt=> .Lt | .le=> .LtE | .gt=> .Gt | .ge=> .GtE | .eq=> .Eq | .ne=> .NotEq | .is=> .Is | .isin=> .In | .notin=> .NotIn
theorem op_neD(hu:X.A.units+64<cLine):OpR X (compareOp .NotEq) (rEqD X.K true):=by
 intro pins s σ H x y v u Q I rx ry h
 obtain⟨da,db,h1,h2,h3,h4,h5,q⟩:=h
 obtain⟨as,q1⟩:=Rep.reads I da x v h1 rx
 obtain⟨bs,q2⟩:=Rep.reads I db y u h2 ry
 exact PySem.SeqAt.compareNe_reads q1 q2 h3 h4 (by omega) ⟨.bl _,H,I,rfl,q⟩
theorem dict_hits{w:Vw}{pins:List (Addr×Obj)}{σ:L2.St}{s:Shared}{A:Around}{b:List (Key×D)}{vb:List (Key×V)}{ub:List (Key×Value)}(rb:RKV w b vb)(kb:KV vb ub)(fb:(b.all fun kv=>flatD kv.2)=true):
  ∀{a:List (Key×D)} {va:List (Key×V)} {ua:List (Key×Value)},(a.all fun kv=>flatD kv.2)=true→RKV w a va→KV va ua→PySem.W.KeqHits A s ub ua (a.all fun kv=>match valD b kv.1 with
   | some y=>eqF kv.2 y
   | none=>false)
 | [],va,ua,_,h,k=>by
  unfold RKV at h;subst h
  cases k
  exact .nil
 |(k0,d)::a,va,ua,f,h,k=>by
  unfold RKV at h
  obtain⟨v,r,rfl,h1,h2⟩:=h
  simp only[List.all_cons,Bool.and_eq_true] at f
  cases k with
  | @cons _ q _ ur hk kr=>
   obtain⟨k1,u⟩:=q
   obtain⟨e1,e2⟩:=hk
   dsimp only at e1 e2
   subst e1
   have ih:=dict_hits (A:=A) (s:=s) (pins:=pins) (σ:=σ) rb kb fb f.2 h2 kr
   rw[List.all_cons]
   rcases rb.val k0 with⟨n1,n2⟩ | ⟨y,vy,n1,n2,n3⟩
   ·have hz:=kb.val k0
    rw[n2] at hz
    have hz':valueAt ub k0=none:=RelO.none_of hz
    simp only[n1,Bool.false_and]
    exact .miss hz'
   ·have hz:=kb.val k0
    rw[n2] at hz
    obtain⟨uy,ey,ry⟩:=hz.some_of
    have fy:flatD y=true:=by
     have hm:(k0,y)∈b:=by
      unfold valD at n1
      obtain⟨p,hp,e⟩:=Option.map_eq_some_iff.mp n1
      have:=List.find?_some hp
      have hk:p.1=k0:=of_decide_eq_true this
      have:=List.mem_of_find?_eq_some hp
      rw[←e,←hk];exact this
     exact(List.all_eq_true.mp fb) _ hm
    simp only[n1]
    refine .hit ey ?_ ih
    rw[←eqF_rel f.1 fy h1 n3]
    exact eqAt_V e2 ry (flat_rel f.1 h1) (flat_rel fy n3)
theorem eq_sound(hK:X.K=w0.K)(hu:X.A.units+64<cLine)(neg:Bool):OpR X (compareOp (if neg then .NotEq else .Eq)) (rB w0 fun M x y Q=>eqD M x y fun b=>Q (if neg then !b else b)):=by
 intro pins s σ H x y v u Q I rx ry h
 obtain⟨w,M,dx,dy,QD,rfl,e0,R,hx,hy,g,a⟩:=h
 have key:∀b:Bool,(scal x y=true∧decide (x=y)=b)→QD (if neg then !b else b)→wpAny (model X.prog X.w) X.A (compareOp (if neg then .NotEq else .Eq) v u) (EP X pins σ Q) X.xe s:=by
  intro b ⟨h1,h2⟩ hq
  cases neg with
  | true=>exact op_ne pins s σ w.H x y v u Q I rx ry ⟨h1,by rw[h2];exact a _ hq⟩
  | false=>exact op_eq pins s σ w.H x y v u Q I rx ry ⟨h1,by rw[h2];exact a _ hq⟩
 unfold eqD at g
 split at g
 ·cases rd_int.mp hx;cases rd_int.mp hy
  exact key _ ⟨rfl,by simp⟩ g
 ·cases rd_str.mp hx;cases rd_str.mp hy
  exact key _ ⟨rfl,by simp⟩ g
 ·cases rd_bl.mp hx;cases rd_bl.mp hy
  exact key _ ⟨rfl,by simp⟩ g
 ·cases rd_non.mp hx;cases rd_non.mp hy
  exact key _ ⟨rfl,by simp⟩ g
 ·cases rd_non.mp hx;cases rd_int.mp hy
  exact key _ ⟨rfl,by simp⟩ g
 ·cases rd_int.mp hx;cases rd_non.mp hy
  exact key _ ⟨rfl,by simp⟩ g
 ·cases rd_non.mp hx;cases rd_bl.mp hy
  exact key _ ⟨rfl,by simp⟩ g
 ·cases rd_bl.mp hx;cases rd_non.mp hy
  exact key _ ⟨rfl,by simp⟩ g
 ·cases rd_non.mp hx;cases rd_str.mp hy
  exact key _ ⟨rfl,by simp⟩ g
 ·cases rd_str.mp hx;cases rd_non.mp hy
  exact key _ ⟨rfl,by simp⟩ g
 ·cases rd_int.mp hx;cases rd_str.mp hy
  exact key _ ⟨rfl,by simp⟩ g
 ·cases rd_str.mp hx;cases rd_int.mp hy
  exact key _ ⟨rfl,by simp⟩ g
 ·cases rd_bl.mp hx;cases rd_str.mp hy
  exact key _ ⟨rfl,by simp⟩ g
 ·cases rd_str.mp hx;cases rd_bl.mp hy
  exact key _ ⟨rfl,by simp⟩ g
 ·rcases g with⟨da,db,p1,p2,p3,p4,p5,g⟩ | ⟨m,n,ka,kb,rfl,rfl,p1,p2,f1,f2,g⟩
  ·have q1:=rep_of R da p1 hx
   have q2:=rep_of R db p2 hy
   rw[e0,←hK] at q1 q2
   cases neg with
   | true=>exact op_neD hu pins s σ w.H x y v u Q I rx ry ⟨da,db,q1,q2,p3,p4,p5,a _ g⟩
   | false=>exact op_eqD hu pins s σ w.H x y v u Q I rx ry ⟨da,db,q1,q2,p3,p4,p5,a _ g⟩
  ·obtain⟨_,rfl⟩:=rd_ref.mp hx
   obtain⟨_,rfl⟩:=rd_ref.mp hy
   obtain⟨_,va,ha,ra⟩:=R.dict p1
   obtain⟨_,vb,hb,rb⟩:=R.dict p2
   cases (show v=Value.ref (w.μ m) from rx)
   cases (show u=Value.ref (w.μ n) from ry)
   obtain⟨_,s1,ua,k1,d1⟩:=dk_of I.hok ha
   obtain⟨_,s2,ub,k2,d2⟩:=dk_of I.hok hb
   have hits:=dict_hits (A:=X.A.in1) (s:=s) (pins:=pins) (σ:=σ) rb k2 f2 f1 ra k1
   have hl:(ua.length==ub.length&&(ka.all fun kv=>match valD kb kv.1 with
    | some y=>eqF kv.2 y
    | none=>false))=eqKV ka kb:=by
    unfold eqKV
    rw[←k1.length,←k2.length,ra.length,rb.length]
    all_goals rfl
   cases neg with
   | true=>exact PySem.W.keq_ne s1 s2 d1 d2 (by omega) (fun _=>hits) ⟨.bl _,w.H,I,rfl,by rw[hl];exact a _ g⟩
   | false=>exact PySem.W.keq_eq s1 s2 d1 d2 (by omega) (fun _=>hits) ⟨.bl _,w.H,I,rfl,by rw[hl];exact a _ g⟩
theorem in_sound(hK:X.K=w0.K)(hu:X.A.units+64<cLine)(neg:Bool):OpR X (compareOp (if neg then .NotIn else .In)) (rB w0 fun M x y Q=>inQ M x y fun b=>Q (if neg then !b else b)):=by
 intro pins s σ H x y v u Q I rx ry h
 obtain⟨w,M,dx,dy,QD,rfl,e0,R,hx,hy,g,a⟩:=h
 have seq:∀{p:Addr} {vs:List V} {xs:List D},y= .ref p→(SqL X.K w.H p vs∨SqT X.K w.H p vs)→RDs w xs vs→flatD dx=true→xs.all flatD=true→QD (if neg then !inD dx xs else inD dx xs)→
   wpAny (model X.prog X.w) X.A (compareOp (if neg then .NotIn else .In) v u) (EP X pins σ Q) X.xe s:=by
  intro p vs xs ey q1 q2 g2 g3 g4
  obtain⟨i1,i2⟩:=in_rel g2 hx g3 q2
  cases neg with
  | true=>exact op_notIn_seq pins s σ w.H _ _ v u Q I rx ry ⟨p,vs,ey,q1,flat_rel g2 hx,i2,by rw[i1];exact a _ g4⟩
  | false=>exact op_in_seq pins s σ w.H _ _ v u Q I rx ry ⟨p,vs,ey,q1,flat_rel g2 hx,i2,by rw[i1];exact a _ g4⟩
 unfold inQ at g
 split at g
 ·cases rd_str.mp hx;cases rd_str.mp hy
  cases neg with
  | true=>exact op_notin_str pins s σ w.H _ _ v u Q I rx ry ⟨_,_,rfl,rfl,a _ g⟩
  | false=>exact op_in_str pins s σ w.H _ _ v u Q I rx ry ⟨_,_,rfl,rfl,a _ g⟩
 ·obtain⟨_,rfl⟩:=rd_ref.mp hy
  rcases g with⟨xs,g1,g2,g3,g4⟩ | ⟨kvs,k,g1,g2,g3⟩
  ·obtain⟨_,vs,q1,q2,_⟩:=R.listL g1
   rw[e0,←hK] at q1
   exact seq rfl (.inl q1) q2 g2 g3 g4
  ·obtain⟨_,vs,q1,q2⟩:=R.dict g1
   cases keyD_kV g2 hx
   cases (show u=Value.ref _ from ry)
   have hv:valV vs k=none∧valD kvs k=none∨∃d v',valD kvs k=some d∧valV vs k=some v':=by
    rcases q2.val k with⟨n1,n2⟩ | ⟨d,v',n1,n2,_⟩
    ·exact .inl ⟨n2,n1⟩
    ·exact .inr ⟨d,v',n1,n2⟩
   have hb:(valV vs k).isSome=(valD kvs k).isSome:=by
    rcases hv with⟨n1,n2⟩ | ⟨d,v',n1,n2⟩
    ·rw[n1,n2];rfl
    ·rw[n1,n2];rfl
   have hu1:X.A.units+1<cLine:=by omega
   cases neg with
   | true=>exact d_notIn hu1 I (DGet.k (k:=k) q1) rx fun s' I'=>⟨.bl (!(valV vs k).isSome),w.H,I',rfl,by rw[hb];exact a _ g3⟩
   | false=>exact d_in hu1 I (DGet.k (k:=k) q1) rx fun s' I'=>⟨.bl (valV vs k).isSome,w.H,I',rfl,by rw[hb];exact a _ g3⟩
 ·obtain⟨p,vs,e,q1,q2⟩:=rd_tup.mp hy
  exact seq e (.inr (.of q1)) q2 g.1 g.2.1 g.2.2
 ·obtain⟨p,vs,e,q1,q2⟩:=rd_gtup.mp hy
  rw[e0,←hK] at q1
  exact seq e (.inr q1) q2 g.1 g.2.1 g.2.2
 ·exact g.elim
theorem cm_sound(hK:X.K=w0.K)(hu:X.A.units+64<cLine)(op:Cm):OpR X (compareOp (cmOf op)) (rB w0 fun M=>cmD M op):=by
 intro pins s σ H x y v u Q I rx ry h
 obtain⟨w,M,dx,dy,QD,rfl,e0,R,hx,hy,g,a⟩:=h
 cases op with
 | lt=>
  obtain⟨i,j,rfl,rfl,g2⟩:=ints2_inv g;clear g;have g:=g2
  cases rd_int.mp hx;cases rd_int.mp hy
  exact op_lt pins s σ w.H _ _ v u Q I rx ry ⟨_,_,rfl,rfl,a _ g⟩
 | le=>
  obtain⟨i,j,rfl,rfl,g2⟩:=ints2_inv g;clear g;have g:=g2
  cases rd_int.mp hx;cases rd_int.mp hy
  exact op_le pins s σ w.H _ _ v u Q I rx ry ⟨_,_,rfl,rfl,a _ g⟩
 | gt=>
  obtain⟨i,j,rfl,rfl,g2⟩:=ints2_inv g;clear g;have g:=g2
  cases rd_int.mp hx;cases rd_int.mp hy
  exact op_gt pins s σ w.H _ _ v u Q I rx ry ⟨_,_,rfl,rfl,a _ g⟩
 | ge=>
  obtain⟨i,j,rfl,rfl,g2⟩:=ints2_inv g;clear g;have g:=g2
  cases rd_int.mp hx;cases rd_int.mp hy
  exact op_ge pins s σ w.H _ _ v u Q I rx ry ⟨_,_,rfl,rfl,a _ g⟩
 | eq=>
  exact eq_sound hK hu false pins s σ w.H x y v u Q I rx ry ⟨w,M,_,_,QD,rfl,e0,R,hx,hy,g,a⟩
 | ne=>
  exact eq_sound hK hu true pins s σ w.H x y v u Q I rx ry ⟨w,M,_,_,QD,rfl,e0,R,hx,hy,g,a⟩
 | is=>
  cases dy with
  | non=>
   cases dx with
   | non=>
    cases rd_non.mp hx;cases rd_non.mp hy
    exact op_isN pins s σ w.H _ _ v u Q I rx ry ⟨rfl,a _ g⟩
   | bl b=>
    cases rd_bl.mp hx;cases rd_non.mp hy
    exact op_isN pins s σ w.H _ _ v u Q I rx ry ⟨rfl,a _ g⟩
   | int i=>
    cases rd_int.mp hx;cases rd_non.mp hy
    exact op_isN pins s σ w.H _ _ v u Q I rx ry ⟨rfl,a _ g⟩
   | str z=>
    cases rd_str.mp hx;cases rd_non.mp hy
    exact op_isN pins s σ w.H _ _ v u Q I rx ry ⟨rfl,a _ g⟩
   | tup l=>
    obtain⟨_,_,rfl,_⟩:=rd_tup.mp hx;cases rd_non.mp hy
    exact op_isN pins s σ w.H _ _ v u Q I rx ry ⟨rfl,a _ g⟩
   | ref n=>
    obtain⟨_,rfl⟩:=rd_ref.mp hx;cases rd_non.mp hy
    exact op_isN pins s σ w.H _ _ v u Q I rx ry ⟨rfl,a _ g⟩
   | exn e C d q=>
    obtain⟨rfl,_⟩:=rd_exn.mp hx;cases rd_non.mp hy
    exact op_isN pins s σ w.H _ _ v u Q I rx ry ⟨rfl,a _ g⟩
   | _=>exact False.elim g
  | _=>exact False.elim g
 | isin=>
  exact in_sound hK hu false pins s σ w.H x y v u Q I rx ry ⟨w,M,_,_,QD,rfl,e0,R,hx,hy,g,a⟩
 | notin=>
  exact in_sound hK hu true pins s σ w.H x y v u Q I rx ry ⟨w,M,_,_,QD,rfl,e0,R,hx,hy,g,a⟩
end
theorem RKV.isEmpty{w:Vw}{ds:List (Key×D)}{vs:List (Key×V)}(h:RKV w ds vs):vs.isEmpty=ds.isEmpty:=by
 cases ds with
 | nil=>unfold RKV at h;subst h;rfl
 | cons p ds=>obtain⟨k,d⟩:=p;unfold RKV at h;obtain⟨v,r,rfl,_⟩:=h;rfl
theorem RDs.isEmpty{w:Vw}{ds:List D}{vs:List V}(h:RDs w ds vs):vs.isEmpty=ds.isEmpty:=by
 cases ds with
 | nil=>unfold RDs at h;subst h;rfl
 | cons d ds=>unfold RDs at h;obtain⟨v,r,rfl,_⟩:=h;rfl
theorem tru_sound{K:PySem.W.Frag}{w:Vw}{M:Store}{d:D}{x:V}{QD:Bool→Prop}(hK:w.K=K)(R:RS w M)(r:RD w d x)(g:truD M d QD):∃k,TruV K x w.H k∧QD k:=by
 unfold truD at g
 split at g
 ·cases rd_non.mp r;exact⟨_,rfl,g⟩
 ·cases rd_bl.mp r;exact⟨_,rfl,g⟩
 ·cases rd_int.mp r;exact⟨_,rfl,g⟩
 ·cases rd_str.mp r;exact⟨_,⟨g.1,rfl⟩,g.2⟩
 ·obtain⟨a,vs,rfl,q1,q2⟩:=rd_tup.mp r
  exact⟨_,.inr (.inl ⟨vs,.of q1,rfl⟩),by rw[q2.isEmpty];exact g⟩
 ·obtain⟨_,rfl⟩:=rd_ref.mp r
  rcases g with⟨xs,g1,g2⟩ | ⟨xs,g1,g2⟩
  ·obtain⟨_,vs,q1,q2,_⟩:=R.listL g1
   rw[hK] at q1
   exact⟨_,.inl ⟨vs,q1,rfl⟩,by rw[q2.isEmpty];exact g2⟩
  ·obtain⟨_,vs,q1,q2⟩:=R.dict g1
   exact⟨_,.inr (.inr ⟨vs,q1,rfl⟩),by rw[q2.isEmpty];exact g2⟩
 ·exact g.elim
theorem atI_rel{w:Vw}{xs:List D}{vs:List V}{i:Int}{d:D}(r:RDs w xs vs)(h:atI xs i=some d):∃v,atI vs i=some v∧RD w d v:=by
 unfold atI at *
 rw[r.length]
 obtain⟨j,h1,h2⟩:=Option.bind_eq_some_iff.mp h
 obtain⟨v,q1,q2⟩:=r.get h2
 exact⟨v,by rw[h1];exact q1,q2⟩
theorem cut_rel{w:Vw}{xs:List D}{vs:List V}{lo hi:Option Int}(r:RDs w xs vs):RDs w (cutD xs lo hi) (cutV vs lo hi):=by
 unfold cutD cutV
 rw[r.length]
 exact(r.drop _).take _
section
variable{X:Cx}{w0:Vw}
theorem ix_dict(hu:X.A.units+1<cLine):IxR X (fun x y H Q=>∃a v,x= .ref a∧DGet H a y (some v)∧Q v H):=by
 intro value slice pins s σ H x y v u Q I rx ry h hs
 obtain⟨a,vv,rfl,g,q⟩:=h
 cases rx
 have hT:=dict_typeIs I g
 have h₂:wpAny (model X.prog X.w) X.A (getItem (.ref a) u) (EP X pins σ Q) X.xe s:=d_getItem hu I g ry fun w' s3 I3 rw'=>⟨vv,H,I3,rw',q⟩
 unfold subscriptTail
 refine wpAny_bind ?_
 rw[getitemInPython_of_ne hT.not_modules]
 refine wpAny_bind (wpAny_specialOf hT PySem.F.slot_dict_getitem.lookup ?_)
 have fin:wpAny (model X.prog X.w) X.A (subscripted slice false (.ref a) u) (fun r s₃=>wpAny (model X.prog X.w) X.A (letTemporaryGo value (.ref a) r >>=fun _=>pure r) (EP X pins σ Q) X.xe s₃) X.xe s:=by
  rw[hs]
  exact wpAny_operating (wpAny_mono h₂ (fun r s₃ h₃=>wpAny_bind (wpAny_letTemporaryGo (wpAny_pure h₃))) fun _ _ x=>x)
 first
  | exact wpAny_pure (wpAny_bind fin)
  | exact wpAny_bind (wpAny_pure (wpAny_bind fin))
  | exact wpAny_bind fin
def rX(w0:Vw):R2:=fun x y H Q=>∃w M dx dy QD,w.H=H∧w.K=w0.K∧RS w M∧RD w dx x∧RD w dy y∧ixD M dx dy QD∧∀d v,QD d→RD w d v→Q v H
theorem ix_sound(hK:X.K=w0.K)(hu:X.A.units+64<cLine):IxR X (rX w0):=by
 intro value slice pins s σ H x y v u Q I rx ry h hs
 obtain⟨w,M,dx,dy,QD,rfl,e0,R,hx,hy,g,a⟩:=h
 unfold ixD at g
 split at g
 ·obtain⟨_,rfl⟩:=rd_ref.mp hx
  rcases g with⟨xs,i,d,rfl,g1,g2,g3⟩ | ⟨kvs,k,d,g1,g2,g3,g4⟩
  ·cases rd_int.mp hy
   obtain⟨_,vs,q1,q2,_⟩:=R.listL g1
   rw[e0,←hK] at q1
   obtain⟨vv,z1,z2⟩:=atI_rel q2 g2
   exact ix_list value slice pins s σ w.H _ _ v u Q I rx ry ⟨_,vs,i,vv,rfl,rfl,q1,z1,a _ _ g3 z2⟩ hs
  ·obtain⟨vs,q1,q2⟩:=R.dictF g1
   cases keyD_kV g2 hy
   rcases q2.val k with⟨n1,n2⟩ | ⟨d',v',n1,n2,n3⟩
   ·rw[n1] at g3;cases g3
   ·rw[n1] at g3;cases g3
    refine ix_dict (by omega) value slice pins s σ w.H _ _ v u Q I rx ry ⟨_,v',rfl,?_,a _ _ g4 n3⟩ hs
    have:DGet w.H (w.μ _) (kV k) (valV vs k):= .inl ⟨vs,k,q1,rfl,rfl⟩
    rw[n2] at this
    exact this
 ·cases rd_int.mp hy
  obtain⟨p,vs,rfl,q1,q2⟩:=rd_tup.mp hx
  obtain⟨d,g1,g2⟩:=g
  obtain⟨vv,z1,z2⟩:=atI_rel q2 g1
  exact ix_tup value slice pins s σ w.H _ _ v u Q I rx ry ⟨_,vs,_,vv,rfl,rfl,.of q1,z1,a _ _ g2 z2⟩ hs
 ·cases rd_int.mp hy
  obtain⟨p,vs,rfl,q1,q2⟩:=rd_gtup.mp hx
  rw[e0,←hK] at q1
  obtain⟨d,g1,g2⟩:=g
  obtain⟨vv,z1,z2⟩:=atI_rel q2 g1
  exact ix_tup value slice pins s σ w.H _ _ v u Q I rx ry ⟨_,vs,_,vv,rfl,rfl,q1,z1,a _ _ g2 z2⟩ hs
 ·cases rd_int.mp hy;cases rd_str.mp hx
  obtain⟨g0,c,g1,g2⟩:=g
  exact ix_str value slice pins s σ w.H _ _ v u Q I rx ry ⟨_,_,c,rfl,rfl,g0,g1,a _ _ g2 (rd_str.mpr rfl)⟩ hs
 ·exact g.elim
theorem sl_str:SlR X (fun x lo hi H Q=>∃z,x= .str z∧z.length≤sizeLine∧Q (.str (Txt.slice z lo hi)) H):=by
 intro pins s σ H x v vl vu lo hi sl Q I rx hs pl pu h
 obtain⟨z,rfl,hz,q⟩:=h
 obtain⟨t,rfl⟩:=rx
 have key:∀l u:Option (Int×Tok),l.map (·.1)=lo→u.map (·.1)=hi→vl=partValue l→vu=partValue u→wpAny (model X.prog X.w) X.A (getItem (.str z t) (.ref sl)) (EP X pins σ Q) X.xe s:=by
  intro l u e1 e2 e3 e4
  subst e1 e2 e3 e4
  refine wpAny_getItem_str_slice (l:=l) (u:=u) (st:=none) hs rfl ?_
  exact post_val_or_str ⟨Nat.le_trans (Txt.slice_le z _ _) hz,fun t' k=>⟨.str (Txt.slice z _ _),H,I.tok _,⟨_,rfl⟩,q⟩⟩
 refine⟨"str",_,PySem.F.slot_str_getitem.lookup,typeIs_str _ _ _,?_⟩
 cases pl with
 | none=>
  cases pu with
  | none=>exact key none none rfl rfl rfl rfl
  | int j tj=>exact key none (some (j,tj)) rfl rfl rfl rfl
 | int i ti=>
  cases pu with
  | none=>exact key (some (i,ti)) none rfl rfl rfl rfl
  | int j tj=>exact key (some (i,ti)) (some (j,tj)) rfl rfl rfl rfl
def rSl(w0:Vw):V→Option Int→Option Int→Hp→VK→Prop:=fun x lo hi H Q=>∃w M dx QD,w.H=H∧w.K=w0.K∧RS w M∧RD w dx x∧slD dx lo hi M QD∧Aft w QD Q
theorem sl_sound(hK:X.K=w0.K):SlR X (rSl w0):=by
 intro pins s σ H x v vl vu lo hi sl Q I rx hs pl pu h
 obtain⟨w,M,dx,QD,rfl,e0,R,hx,g,a⟩:=h
 unfold slD at g
 split at g
 ·cases rd_str.mp hx
  exact sl_str pins s σ w.H _ v vl vu _ _ sl Q I rx hs pl pu ⟨_,rfl,g.1,a _ w _ M (Ext.refl w) R (rd_str.mpr rfl) g.2⟩
 ·obtain⟨_,rfl⟩:=rd_ref.mp hx
  obtain⟨xs,g1,g2⟩:=g
  obtain⟨_,vs,q1,q2,_⟩:=R.listL g1
  rw[e0,←hK] at q1
  refine sl_list pins s σ w.H _ v vl vu _ _ sl Q I rx hs pl pu ⟨_,vs,rfl,q1,fun p hp=>?_⟩
  obtain⟨x1,x2,x3⟩:=new_list R hp (cut_rel (lo:=lo) (hi:=hi) q2)
  exact a _ _ _ _ x1 x2 x3 g2
 ·obtain⟨p,vs,rfl,q1,q2⟩:=rd_tup.mp hx
  refine sl_tup pins s σ w.H _ v vl vu _ _ sl Q I rx hs pl pu ⟨_,vs,rfl,.of q1,by rw[q2.length];exact g.1,fun p hp=>?_⟩
  obtain⟨x1,x2,x3⟩:=new_tup R hp (cut_rel (lo:=lo) (hi:=hi) q2)
  exact a _ _ _ _ x1 x2 x3 g.2
 ·exact g.elim
def rC(w0:Vw)(g:List D→Store→DK→Prop):List V→Hp→VK→Prop:=fun xs H Q=>∃w M ds QD,w.H=H∧w.K=w0.K∧RS w M∧RDs w ds xs∧g ds M QD∧Aft w QD Q
def bfOf:Bf→Str×Value
 | .len=>("len",.builtin "len") | .isinst=>("isinstance",.builtin "isinstance")
 | .list1=>("list",.type "list") | .dict1=>("dict",.type "dict") | .int1=>("int",.type "int")
theorem rds1{w:Vw}{d:D}{xs:List V}(h:RDs w [d] xs):∃v,xs=[v]∧RD w d v:=by
 unfold RDs at h
 obtain⟨v,r,rfl,h1,h2⟩:=h
 unfold RDs at h2
 subst h2
 exact⟨v,rfl,h1⟩
theorem rds2{w:Vw}{d e:D}{xs:List V}(h:RDs w [d,e] xs):∃v u,xs=[v,u]∧RD w d v∧RD w e u:=by
 unfold RDs at h
 obtain⟨v,r,rfl,h1,h2⟩:=h
 obtain⟨u,rfl,h3⟩:=rds1 h2
 exact⟨v,u,rfl,h1,h3⟩
theorem rds0{w:Vw}{xs:List V}(h:RDs w [] xs):xs=[]:=by unfold RDs at h;exact h
theorem rds_cls{w:Vw}:∀{as:List Addr} {vs:List V},RDs w (as.map D.cls) vs→vs=as.map V.ref
 | [],vs,h=>rds0 h
 | a::r,vs,h=>by
  rw[List.map_cons] at h
  unfold RDs at h
  obtain⟨v,vs',rfl,h1,h2⟩:=h
  rw[rd_cls.mp h1,rds_cls h2]
  rfl
def rIsXT(K:PySem.W.Frag):List V→Hp→VK→Prop:=fun xs H Q=>∃(e C dx:Addr) (fs:List (Str×V)) (p:Addr) (as:List Addr) (b:Bool),xs=[.ref e,.ref p]∧H e=some (XO e (.ref C) (some dx))∧H dx=some (.xd fs)∧ExcIs K C∧H p=some (.tup (as.map V.ref))∧PySem.W.kitAny K (.ref C) (as.map Value.ref)=some b∧Q (.bl b) H
theorem vals_refs:∀{as:List Addr} {us:List Value},Vals (as.map V.ref) us→us=as.map Value.ref
 | [],us,h=>by cases h;rfl
 | a::r,us,h=>by
  cases h with
  | cons h1 h2=>
   obtain rfl:_=Value.ref a:=h1
   rw[vals_refs h2]
   rfl
theorem call_isXT{X:Cx}:CallR X (.builtin "isinstance") (rIsXT X.K):=by
 intro pins s σ H xs us Q I r h
 obtain⟨e,C,dx,fs,p,as,b,rfl,he,hd,S,hp,k,q⟩:=h
 obtain⟨u,v,rfl,ru,rv⟩:=vals2 r
 obtain rfl:u=Value.ref e:=ru
 obtain rfl:v=Value.ref p:=rv
 obtain⟨oe,od,mA,J,_⟩:=exc_inst I he hd
 obtain⟨its,r',⟨⟨oc,odd,dat,sl⟩,g1,g2,n,g3⟩,hz⟩:=I.tuple (.of hp)
 cases vals_refs r'
 dsimp only at g2 g3
 subst g2 g3
 exact PySem.W.kia_tup (kitx_exc S) I.kIn J g1 k (fun z=>nomatch z) fun tk=>⟨.bl b,H,I.tok tk,rfl,q⟩
theorem tyD_of{K:PySem.W.Frag}{w:Vw}{M:Store}{d:D}{x:V}{t:String}(R:RS w M)(r:RD w d x)(h:tyD M d=some t):TyOf K w.H x (.type t):=by
 unfold tyD at h
 split at h
 ·cases h;cases rd_non.mp r;exact .non
 ·cases h;cases rd_bl.mp r;exact .bl _
 ·cases h;cases rd_int.mp r;exact .int _
 ·cases h;cases rd_str.mp r;exact .str _
 ·cases h;obtain⟨a,vs,rfl,q,_⟩:=rd_tup.mp r;exact .tup q
 ·obtain⟨_,rfl⟩:=rd_ref.mp r
  split at h
  ·rename_i e;cases h;obtain⟨vs,q,_⟩:=R.cell _ _ e;exact .lst q
  ·cases h
  ·rename_i e;cases h;obtain⟨vs,q,_⟩:=R.cell _ _ e;exact .dK q
  ·cases h
  ·cases h
 ·cases h
theorem call_dict1:CallR X (.type "dict") (fun xs H Q=>∃a kvs,xs=[V.ref a]∧H a=some (.dK kvs)∧∀p,H p=none→Q (.ref p) (upd H p (.dK kvs))):=by
 intro pins s σ H xs us Q I r h
 obtain⟨a,kvs,rfl,e,q⟩:=h
 obtain⟨u,rfl,ru⟩:=vals1 r
 cases ru
 exact d_copyOf I (.inl e) fun p s' hp I'=>⟨.ref p,_,I',rfl,q p hp⟩
theorem rd_pairs{w:Vw}:∀{ps:List (Key×D)} {vs:List V},RDs w (pairD ps) vs→∃qs,PairsV w.K w.H vs qs∧RKV w ps qs
 | [],vs,h=>by
  cases vs with
  | nil=>exact⟨[],trivial,by unfold RKV;rfl⟩
  | cons _ _=>have:=h.length;simp[pairD] at this
 | p::ps,vs,h=>by
  change RDs w (D.tup [kD p.1,p.2]::pairD ps) vs at h
  unfold RDs at h
  obtain⟨v,vr,rfl,r1,r2⟩:=h
  obtain⟨t,us,rfl,q1,q2⟩:=rd_tup.mp r1
  obtain⟨u1,u2,rfl,s1,s2⟩:=rds2 q2
  obtain⟨qs,h1,h2⟩:=rd_pairs r2
  have e:u1=kV p.1:=by
   cases hk:p.1 with
   | inl i=>rw[hk] at s1;exact rd_int.mp s1
   | inr x=>rw[hk] at s1;exact rd_str.mp s1
  subst e
  exact⟨(p.1,u2)::qs,⟨⟨t,rfl,.of q1⟩,h1⟩,by unfold RKV;exact⟨u2,qs,rfl,s2,h2⟩⟩
theorem rkv_fold{w:Vw}:∀{ps:List (Key×D)} {qs:List (Key×V)} {ds:List (Key×D)} {vs:List (Key×V)},RKV w ps qs→RKV w ds vs→RKV w (ps.foldl (fun m p=>putD m p.1 p.2) ds) (qs.foldl (fun m p=>putK m p.1 p.2) vs)
 | [],qs,ds,vs,h,g=>by unfold RKV at h;subst h;exact g
 | p::ps,qs,ds,vs,h,g=>by
  unfold RKV at h
  obtain⟨v,r,rfl,h1,h2⟩:=h
  rw[List.foldl_cons,List.foldl_cons]
  exact rkv_fold (ps:=ps) (qs:=r) h2 (RKV.put (k:=p.1) h1 g)
def bfCalm0:Bf→Bool
 | .dict1=>false
 | _=>true
theorem call_intB:CallR X (.type "int") (fun xs H Q=>∃b,xs=[.bl b]∧Q (.int (if b then 1 else 0)) H):=by
 intro pins s σ H xs us Q I r h
 obtain⟨b,rfl,q⟩:=h
 obtain⟨u,rfl,e⟩:=vals1 r
 cases e
 exact call_int_bool ⟨.int _,H,I.tok _,⟨_,rfl⟩,q⟩
theorem bf_sound(hK:X.K=w0.K)(b:Bf)(hc:X.calm=true∨bfCalm0 b=true):CallR X (bfOf b).2 (rC w0 (bfD w0.K b)):=by
 intro pins s σ H xs us Q I r h
 obtain⟨w,M,ds,QD,rfl,e0,R,hx,g,a⟩:=h
 cases b with
 | len=>
  obtain⟨x,rfl,g2⟩:=at1_inv g;clear g;have g:=g2
  cases x with
  | ref n=>
   obtain⟨v,rfl,r1⟩:=rds1 hx
   obtain⟨_,rfl⟩:=rd_ref.mp r1
   rcases g with⟨xs,g1,g2⟩ | ⟨xs,g1,g2⟩
   ·obtain⟨_,vs,q1,q2,_⟩:=R.listL g1
    rw[e0,←hK] at q1
    exact call_len_seq pins s σ w.H _ us Q I r ⟨_,vs,rfl,.inl q1,a _ w _ M (Ext.refl w) R (rd_int.mpr (by rw[q2.length])) g2⟩
   ·obtain⟨_,vs,q1,q2⟩:=R.dict g1
    exact call_lenD pins s σ w.H _ us Q I r ⟨_,vs,rfl,q1,a _ w _ M (Ext.refl w) R (rd_int.mpr (by rw[q2.length])) g2⟩
  | tup l=>
   obtain⟨v,rfl,r1⟩:=rds1 hx
   obtain⟨p,vs,rfl,q1,q2⟩:=rd_tup.mp r1
   exact call_len_seq pins s σ w.H _ us Q I r ⟨_,vs,rfl,.inr (.of q1),a _ w _ M (Ext.refl w) R (rd_int.mpr (by rw[q2.length])) g⟩
  | str z=>
   obtain⟨v,rfl,r1⟩:=rds1 hx
   cases rd_str.mp r1
   exact call_len_str pins s σ w.H _ us Q I r ⟨_,rfl,g.1,a _ w _ M (Ext.refl w) R (rd_int.mpr rfl) g.2⟩
  | _=>exact False.elim g
 | isinst=>
  obtain⟨x,y,rfl,g2⟩:=at2_inv g;clear g;have g:=g2
  obtain⟨v,u,rfl,r1,r2⟩:=rds2 hx
  unfold isD at g
  split at g
  ·obtain⟨b,g1,g2,g3⟩:=g
   obtain⟨rfl,q1,row,q2,q3⟩:=rd_exn.mp r1
   cases rd_cls.mp r2
   rw[←hK] at g1 g2
   exact call_isX pins s σ w.H _ us Q I r ⟨_,_,_,_,_,_,b,rfl,q1,q2,g1,fun u hu=>hu,g2,a _ w _ M (Ext.refl w) R (rd_bl.mpr rfl) g3⟩
  ·obtain⟨b,g1,g2,g3⟩:=g
   obtain⟨rfl,q1,row,q2,q3⟩:=rd_exn.mp r1
   cases rd_ty.mp r2
   rw[←hK] at g1 g2
   exact call_isX pins s σ w.H _ us Q I r ⟨_,_,_,_,_,_,b,rfl,q1,q2,g1,fun u hu=>hu,g2,a _ w _ M (Ext.refl w) R (rd_bl.mpr rfl) g3⟩
  ·obtain⟨as,b,rfl,g1,g2,g3⟩:=g
   obtain⟨rfl,q1,row,q2,q3⟩:=rd_exn.mp r1
   obtain⟨p,vs,rfl,q4,q5⟩:=rd_tup.mp r2
   cases rds_cls q5
   rw[←hK] at g1 g2
   exact call_isXT pins s σ w.H _ us Q I r ⟨_,_,_,_,_,_,b,rfl,q1,q2,g1,q4,g2,a _ w _ M (Ext.refl w) R (rd_bl.mpr rfl) g3⟩
  ·obtain⟨t,b,g1,g2,g3⟩:=g
   cases rd_ty.mp r2
   rw[←hK] at g2
   exact call_isB pins s σ w.H _ us Q I r ⟨_,_,_,b,rfl,tyD_of R r1 g1,g2,a _ w _ M (Ext.refl w) R (rd_bl.mpr rfl) g3⟩
  ·exact g.elim
 | list1=>
  obtain⟨x,rfl,g2⟩:=at1_inv g;clear g;have g:=g2
  obtain⟨v,rfl,r1⟩:=rds1 hx
  obtain⟨xs,g1,g2⟩:=g
  have:∃p vs,v= .ref p∧(SqL X.K w.H p vs∨SqT X.K w.H p vs)∧RDs w xs vs:=by
   rw[hK,←e0]
   unfold itemsD at g1
   split at g1
   ·obtain⟨_,rfl⟩:=rd_ref.mp r1
    obtain⟨_,vs,q1,q2,_⟩:=R.listL g1
    exact⟨_,vs,rfl,.inl q1,q2⟩
   ·cases g1
    obtain⟨p,vs,rfl,q1,q2⟩:=rd_tup.mp r1
    exact⟨_,vs,rfl,.inr (.of q1),q2⟩
   ·cases g1
    obtain⟨p,vs,rfl,q1,q2⟩:=rd_gtup.mp r1
    exact⟨_,vs,rfl,.inr q1,q2⟩
   ·cases g1
  obtain⟨p,vs,rfl,q1,q2⟩:=this
  refine call_list_of pins s σ w.H _ us Q I r ⟨p,vs,rfl,q1,fun l hl=>?_⟩
  obtain⟨x1,x2,x3⟩:=new_list R hl q2
  exact a _ _ _ _ x1 x2 x3 g2
 | dict1=>
  obtain⟨x,rfl,g2⟩:=at1_inv g;clear g;have g:=g2
  obtain⟨n,rfl,g2⟩:=onRef_inv g;clear g;have g:=g2
  obtain⟨v,rfl,r1⟩:=rds1 hx
  obtain⟨_,rfl⟩:=rd_ref.mp r1
  rcases g with⟨xs,g1,g2⟩ | ⟨ps,g1,g2,g3⟩
  ·obtain⟨_,vs,q1,q2⟩:=R.dict g1
   refine call_dict1 pins s σ w.H _ us Q I r ⟨_,vs,rfl,q1,fun l hl=>?_⟩
   obtain⟨x1,x2,x3⟩:=new_dict R hl q2
   exact a _ _ _ _ x1 x2 x3 g2
  ·obtain⟨_,vs,q1,q2,_⟩:=R.listL g1
   obtain⟨qs,z1,z2⟩:=rd_pairs q2
   have hl2:=q2.length
   unfold pairD at hl2
   rw[List.length_map] at hl2
   rw[e0,←hK] at q1 z1
   refine call_dictL (hc.resolve_right (by simp[bfCalm0])) pins s σ w.H _ us Q I r ⟨_,vs,qs,rfl,q1,z1,by omega,fun l hl=>?_⟩
   obtain⟨x1,x2,x3⟩:=new_dict R hl (rkv_fold z2 (show RKV w [] [] by unfold RKV;rfl))
   exact a _ _ _ _ x1 x2 x3 g3
 | int1=>
  obtain⟨x,rfl,g2⟩:=at1_inv g;clear g;have g:=g2
  obtain⟨i,rfl,g2⟩:=onBl_inv g;clear g;have g:=g2
  obtain⟨v,rfl,r1⟩:=rds1 hx
  cases rd_bl.mp r1
  exact call_intB pins s σ w.H _ us Q I r ⟨_,rfl,a _ w _ M (Ext.refl w) R (rd_int.mpr rfl) g⟩
end
def mtT:Mt→String
 | .clearD=>"dict"
 | .append | .clear=>"list"
 | .get2=>"dict"
def mtN:Mt→Str
 | .clearD=>"clear"
 | .append=>"append" | .clear=>"clear" | .get2=>"get"
def mtI:Mt→String
 | .clearD=>"dict.clear"
 | .append=>"list.append" | .clear=>"list.clear" | .get2=>"dict.get"
theorem mt_pa:∀m:Mt,PlainAttrs (mtT m)
 | .clearD=>PySem.F.plainAttrs_dict
 | .append | .clear=>PySem.F.plainAttrs_list
 | .get2=>PySem.F.plainAttrs_dict
theorem mt_slot:∀m:Mt,Slot (mtT m) (mtN m) (mtI m)
 | .clearD=>PySem.F.slot_dict_clear
 | .append=>PySem.F.slot_list_append | .clear=>PySem.F.slot_list_clear
 | .get2=>PySem.F.slot_dict_get
theorem mt_ty:∀m:Mt,typeOf (.builtin (mtI m))=pure (.type "method_descriptor")
 | .clearD=>PySem.F.type_dict_clear
 | .append=>PySem.F.type_list_append | .clear=>PySem.F.type_list_clear
 | .get2=>PySem.F.type_dict_get
def rM(w0:Vw)(m:Mt):V→List V→Hp→VK→Prop:=fun x xs H Q=>∃w M dx ds QD,w.H=H∧w.K=w0.K∧RS w M∧RD w dx x∧RDs w ds xs∧mtD m dx ds M QD∧Aft w QD Q
theorem mtK_ty{w:Vw}{M:Store}{m:Mt}{d:D}{x:V}(R:RS w M)(r:RD w d x)(h:mtK m d M):tyV w.K (mtT m) x w.H:=by
 have L:∀{n:Nat},RD w (.ref n) x→(readL M n).isSome=true→tyV w.K "list" x w.H:=by
  intro n r h
  obtain⟨_,rfl⟩:=rd_ref.mp r
  obtain⟨xs,e⟩:=Option.isSome_iff_exists.mp h
  obtain⟨_,vs,q1,_⟩:=R.listL e
  exact .inl ⟨rfl,vs,q1⟩
 have K:∀{n:Nat},RD w (.ref n) x→(readD M n).isSome=true→tyV w.K "dict" x w.H:=by
  intro n r h
  obtain⟨_,rfl⟩:=rd_ref.mp r
  obtain⟨xs,e⟩:=Option.isSome_iff_exists.mp h
  obtain⟨_,vs,q1,_⟩:=R.dict e
  exact .inr (.inr (.inl ⟨rfl,.inl ⟨vs,q1⟩⟩))
 obtain⟨n,rfl,h⟩:=onRef_inv h
 cases m with
 | clearD=>exact K r h
 | get2=>exact K r h
 | _=>exact L r h
section
variable{X:Cx}{w0:Vw}
theorem mt_sound(hK:X.K=w0.K)(hu:X.A.units+64<cLine)(m:Mt):MtR X (mtI m) (rM w0 m):=by
 intro pins s σ H x xs v us Q I rx r h
 obtain⟨w,M,dx,ds,QD,rfl,e0,R,hx,hs,g,a⟩:=h
 obtain⟨n,rfl,g2⟩:=onRef_inv g;clear g;have g:=g2
 cases m with
 | append=>
  obtain⟨x,rfl,g2⟩:=at1_inv g;clear g;have g:=g2
  obtain⟨_,rfl⟩:=rd_ref.mp hx
  obtain⟨y,rfl,ry⟩:=rds1 hs
  obtain⟨ds,g1,g2,g3⟩:=g
  obtain⟨hn,vs,q1,q2⟩:=R.list g1
  obtain⟨x1,x2⟩:=write_list R hn q1 (q2.append (RDs.cons ry (RDs.nil w)))
  exact mt_append pins s σ w.H _ _ v us Q I rx r ⟨_,vs,y,rfl,rfl,q1,by rw[q2.length];exact g2,a _ _ _ _ x1 x2 (rd_non.mpr rfl) g3⟩
 | clearD=>
  obtain⟨rfl,g2⟩:=at0_inv g;clear g;have g:=g2
  obtain⟨_,rfl⟩:=rd_ref.mp hx
  cases rds0 hs
  obtain⟨kvs,g1,g3⟩:=g
  obtain⟨hn,vs,q1,q2⟩:=R.dict g1
  obtain⟨x1,x2⟩:=write_dict (vs:=[]) (xs:=[]) R hn q1 (by unfold RKV;rfl)
  cases (show v=Value.ref _ from rx)
  cases r
  refine d_clear I q1 fun s' I'=>⟨.non,_,I',rfl,?_⟩
  exact a _ _ _ _ x1 x2 (rd_non.mpr rfl) g3
 | get2=>
  obtain⟨x,y,rfl,g2⟩:=at2_inv g;clear g;have g:=g2
  obtain⟨_,rfl⟩:=rd_ref.mp hx
  obtain⟨y,z,rfl,ry,rz⟩:=rds2 hs
  obtain⟨kvs,k,g1,g2,g3⟩:=g
  obtain⟨hn,vs,q1,q2⟩:=R.dict g1
  obtain⟨u,u2,rfl,ru,ru2⟩:=vals2 r
  cases (show v=Value.ref _ from rx)
  cases keyD_kV g2 ry
  refine d_get2 (by omega) I (DGet.k (k:=k) q1) ru ru2 fun w' s' I' rw'=>⟨_,w.H,I',rw',?_⟩
  rcases q2.val k with⟨n1,n2⟩ | ⟨d',v',n1,n2,n3⟩
  ·rw[n1] at g3
   rw[n2]
   exact a _ w _ M (Ext.refl w) R rz g3
  ·rw[n1] at g3
   rw[n2]
   exact a _ w _ M (Ext.refl w) R n3 g3
 | clear=>
  obtain⟨rfl,g2⟩:=at0_inv g;clear g;have g:=g2
  obtain⟨_,rfl⟩:=rd_ref.mp hx
  cases rds0 hs
  obtain⟨ds,g1,g3⟩:=g
  obtain⟨hn,vs,q1,q2⟩:=R.list g1
  obtain⟨x1,x2⟩:=write_list R hn q1 (RDs.nil w)
  exact mt_clear pins s σ w.H _ _ v us Q I rx r ⟨_,vs,rfl,rfl,q1,a _ _ _ _ x1 x2 (rd_non.mpr rfl) g3⟩
end
def gF(w0:Vw)(tg:List Nat):TG:=fun v σ H Q=>∃w σD M d QD,StOk w0 w σD M σ H∧RD w d v∧tgD tg d σD QD∧∀σ' σD',REnv w σD' σ'→QD σD'→Q σ' H
def gAll:List Nat→TGs
 | []=>gNil
 | i::is=>gCons (gName i) (gAll is)
theorem gAll_run{w:Vw}{H:Hp}{Q:L2.St→Hp→Prop}{QD:DEnv→Prop}(k:∀σ' σD',REnv w σD' σ'→QD σD'→Q σ' H):∀(is:List Nat) {ds:List D} {vs:List V} {σ:L2.St} {σD:DEnv},RDs w ds vs→ds.length=is.length→REnv w σD σ→
  QD ((is.zip ds).foldl (fun σ p=>σ.set p.1 (some p.2)) σD)→gAll is vs σ H Q
 | [],ds,vs,σ,σD,r,hl,e,q=>by
  cases List.length_eq_zero_iff.mp hl
  cases rds0 r
  exact⟨rfl,k _ _ e q⟩
 | i::is,ds,vs,σ,σD,r,hl,e,q=>by
  cases ds with
  | nil=>simp at hl
  | cons d ds=>
   unfold RDs at r
   obtain⟨v,vr,rfl,h1,h2⟩:=r
   refine⟨v,vr,rfl,?_⟩
   show gAll is vr (σ.set i (some v)) H Q
   exact gAll_run k is h2 (by simpa using hl) (e.set i h1) q
section
variable{X:Cx}{w0:Vw}
theorem PG.imp{e:Expr}{t t':TG}(h:PG X e t)(k:∀v σ H Q,t' v σ H Q→t v σ H Q):PG X e t':=fun pins s σ H v u Q I r q=>h pins s σ H v u Q I r (k v σ H Q q)
theorem pg_one{i:Nat}{e:Expr}(h:PG X e (gName i)):PG X e (gF w0 [i]):=PG.imp h fun v σ H Q ⟨w,σD,M,d,QD,S,r,g,k⟩=>k _ _ (S.env.set i r) g
theorem pg_many{is:List Nat}{e:Expr}(hl:2≤is.length)(h:PG X e (gTup X.K is.length (gAll is))):PG X e (gF w0 is):=PG.imp h fun v σ H Q ⟨w,σD,M,d,QD,S,r,g,k⟩=>by
 unfold tgD at g
 split at g
 ·simp at hl
 ·obtain⟨a,vs,rfl,q1,q2⟩:=rd_tup.mp r
  obtain⟨g1,g2⟩:=g
  rw[S.heap] at q1
  exact⟨a,vs,rfl,.of q1,by rw[q2.length];exact g1,gAll_run k is q2 g1 S.env g2⟩
 ·exact g.elim
end
structure Ck where
 N:List Str
 sc:Scope
 FN:List Str
 GN:List Str
 BN:List Str
 loops:Bool
 calm:Bool
 tries:Bool
 raises:List Nat
 cells:Bool
 own:List Str
def ownOf(scope:Scope):List Str:=(scope.names.filter fun y=>y.2== .cell).map (·.1)
def Ck.vis(k:Ck)(x:Str):Bool:=(k.sc.names.lookup x==some .local || k.sc.names.lookup x==some .cell || k.sc.names.lookup x==some .free)&&!(x==("__debug__":Str))&&!(x==("__classdict__":Str))
def Ck.glob(k:Ck)(x:Str):Bool:=k.sc.names.lookup x==some .globalImplicit&&!(x==("__debug__":Str))&&!(x==("__name__":Str))
def Ck.loc(k:Ck)(x:Str):Bool:=k.sc.names.lookup x==some .local
def Ck.locC(k:Ck)(x:Str):Bool:=k.loc x || ((k.cells || k.own.contains x)&&k.sc.names.lookup x==some .cell)
def baseOk:Expr→Bool
 | .Call (.Name x _) [] [] _=>x !=("super":Str)
 | _=>true
def noSlice:Expr→Bool
 | .Slice ..=>false
 | _=>true
def noSet:Expr→Bool
 | .Set ..=>false
 | _=>true
def noStar:Expr→Bool
 | .Starred ..=>false
 | _=>true
def isIn:Cm→Bool
 | .isin | .notin=>true
 | _=>false
def chkTg(k:Ck):List Nat→List Expr→Bool
 | [],[]=>true
 | i::is,.Name x _::es=>k.N[i]?==some x&&k.locC x&&chkTg k is es
 | _,_=>false
def chkTgt(k:Ck)(is:List Nat):Expr→Bool
 | .Name x _=>match is with
  | [i]=>k.N[i]?==some x&&k.locC x
  | _=>false
 | .Tuple es _ _=>k.calm&&decide (2≤is.length)&&chkTg k is es
 | _=>false
def itTg:It→Expr→Bool
 | .enm _,.Tuple ..=>true
 | .enm _,_=>false
 | .zip _,.Tuple ..=>true
 | .zip _,_=>false
 | _,_=>true
mutual
def chkE(k:Ck):E→Expr→Bool
 | .var i,.Name x _=>k.N[i]?==some x&&k.vis x
 | .int i,.Constant (.int j) _ _=>i==j
 | .bl b,.Constant (.bool c) _ _=>b==c
 | .non,.Constant .none _ _=>true
 | .str x,.Constant (.str y) _ _=>x==y
 | .ty t,.Name x _=>x==Str.ofString (tyName t)&&k.glob x&&k.BN.contains x
 | .glb g,.Name x _=>k.GN[g]?==some x&&k.glob x
 | .bin op a b,.BinOp l o r _=>o==opOf op&&chkE k a l&&chkE k b r
 | .neg a,.UnaryOp .USub l _=>chkE k a l
 | .not a,.UnaryOp .Not l _=>chkE k a l
 | .cmp op a b,.Compare l [o] [r] _=>o==cmOf op&&(!isIn op || noSet r)&&chkE k a l&&chkE k b r
 | .bop true es,.BoolOp .And ls _=>chkEs k es ls
 | .bop false es,.BoolOp .Or ls _=>chkEs k es ls
 | .ife t a b,.IfExp x l r _=>chkE k t x&&chkE k a l&&chkE k b r&&noIf t
 | .lst es,.List ls _=>chkEs k es ls
 | .tup es,.Tuple ls _ _=>chkEs k es ls
 | .dict0,.Dict [] [] _=>true
 | .dct2 a b c d,.Dict [some l,some l2] [r,r2] _=>chkE k a l&&chkE k b r&&chkE k c l2&&chkE k d r2
 | .dct a b,.Dict [some l] [r] _=>chkE k a l&&chkE k b r
 | .ix a b,.Subscript l r _=>noSlice r&&chkE k a l&&chkE k b r
 | .sl a lo hi,.Subscript l (.Slice x y none _) _=>chkE k a l&&chkO k lo x&&chkO k hi y
 | .call f es,.Call (.Name x _) ls [] _=>k.calm&&k.FN[f]?==some x&&k.glob x&&chkEs k es ls
 | .bf b es,.Call (.Name x _) (l::ls) [] _=>(k.calm || bfCalm0 b)&&x==(bfOf b).1&&k.glob x&&k.BN.contains x&&chkEs k es (l::ls)
 | .mt m o es,.Call (.Attribute l nm ap) ls [] cp=>nm==mtN m&&baseOk l&&ap.endLine==cp.line&&decide (ls.length<30)&&chkE k o l&&chkEs k es ls
 | .comp N' js tg it cd e,.ListComp el [⟨t,iter,ifs,0⟩] scope _=>k.calm&&compOk k.sc k.N N' js scope&&noSet iter&&chkIt k it iter&&decide N'.Nodup&&
   chkTgt {k with N:=N',sc:=relabS scope k.sc,cells:=false,own:=ownOf scope,tries:=false,raises:=[]} tg t&&chkC {k with N:=N',sc:=relabS scope k.sc,cells:=false,own:=ownOf scope,tries:=false,raises:=[]} cd ifs&&chkE {k with N:=N',sc:=relabS scope k.sc,cells:=false,own:=ownOf scope,tries:=false,raises:=[]} e el&&itTg it t
 | _,_=>false
def chkEs(k:Ck):Es→List Expr→Bool
 | .nil,[]=>true
 | .cons e r,x::xs=>chkE k e x&&noStar x&&chkEs k r xs
 | _,_=>false
def chkO(k:Ck):Eo→Option Expr→Bool
 | .no,none=>true
 | .yes e,some x=>chkE k e x
 | _,_=>false
def chkC(k:Ck):Eo→List Expr→Bool
 | .no,[]=>true
 | .yes e,[x]=>chkE k e x&&noIf e
 | _,_=>false
def chkIt(k:Ck):It→Expr→Bool
 | .seq e,x=>chkE k e x
 | .rng1 a,.Call (.Name x _) [l] [] _=>x==("range":Str)&&k.glob x&&k.BN.contains x&&noStar l&&chkE k a l
 | .rng2 a b,.Call (.Name x _) [l,r] [] _=>x==("range":Str)&&k.glob x&&k.BN.contains x&&noStar l&&noStar r&&chkE k a l&&chkE k b r
 | .enm e,.Call (.Name x _) [l] [] _=>x==("enumerate":Str)&&k.glob x&&k.BN.contains x&&noStar l&&chkE k e l
 | .zip es,.Call (.Name x _) (l::ls) [] _=>x==("zip":Str)&&k.glob x&&k.BN.contains x&&chkEs k es (l::ls)
 | _,_=>false
def noIf:E→Bool
 | .ife _ _ _=>false
 | .not a=>noIf a
 | .bop _ es=>noIfs es
 | _=>true
def noIfs:Es→Bool
 | .nil=>true
 | .cons e r=>noIf e&&noIfs r
end
def Callable(X:Cx)(x:Str)(sp:DSp):Prop:=
 ∃(kk:Nat) (f:Addr) (fd:FuncData) (ps:List Str) (ds:List Value) (dvs:List V) (dD:List D) (sp0:DSp),FnOk X.prog X.w X.K X.mg X.base (CX1 X.prog X.w) kk f fd ps (spF X.K sp0)∧Room kk X.A∧X.mg x=some (.ref f)∧PySem.W.keepIn X.K (.ref f)=true∧
  Binds X.K fd ps ds∧Vals dvs ds∧(∀w:Vw,w.K=X.K→RDs w dD dvs)∧∀as M Q Z,sp as M Q Z→sp0 (as++dD) M Q Z
def spInit(K:PySem.W.Frag):Sp:=fun vs H Q _=>∃e C y,vs=[V.ref e,y]∧H e=some (XN e (.ref C) none)∧ExcSet K C "row"∧∀dx,H dx=none→Q .non (upd (upd H dx (.xd [("row",y)])) e (XN e (.ref C) (some dx)))
def Raisable(X:Cx)(C:Addr):Prop:=∃(kk:Nat) (f:Addr) (fd:FuncData),ExcMk X.K C f∧FnOk X.prog X.w X.K X.mg X.base CX0 kk f fd ["self","row"] (spInit X.K)∧Room (kk+1) X.A∧Binds X.K fd ["self","row"] [.none]∧Binds X.K fd ["self","row"] []∧ExcSet X.K C "row"
structure Good(c:Cfg)(k:Ck)(Z:DX)(w0:Vw)(X:Cx):Prop where
 hK:X.K=c.K
 wK:w0.K=c.K
 N:X.N=k.N
 nd:X.N.Nodup
 sc:X.env.scope=k.sc
 calm:k.calm=true→X.calm=true
 units:X.A.units+64<cLine
 fns:k.calm=true→∀(f:Nat) (x:Str) (sp:DSp),k.FN[f]?=some x→c.Γ[f]?=some sp→Callable X x sp
 flen:k.FN.length=c.Γ.length
 glb:∀(g:Nat) (x:Str) (d:D),k.GN[g]?=some x→c.G[g]?=some d→∃v u,X.mg x=some u∧RelV v u∧∀w:Vw,w.K=X.K→RD w d v
 blt:∀x,x∈k.BN→X.mg x=none
 exc:∃E,Passes (CX1 X.prog X.w) X E∧∀cls dd H',xkOf w0 Z cls dd H'→E cls dd H'
 stk:k.tries=true→X.stack=X.env::X.outer∧X.env.frame=some X.env.locals
 rai:∀g:Nat,k.raises.contains g=true→(∃E,Leaves X E∧∀cls dd H',xkOf w0 Z cls dd H'→E cls dd H')∧∀C:Addr,c.G[g]?=some (.cls C)→Raisable X C
 po:k.loops=true→PassesOwn (model X.prog X.w) X.A X.env X.xe
 fnc:k.cells=true→∀x,X.fn x=true
 fno:∀x,x∈k.own→X.fn x=true
theorem xkOf_mono{w w':Vw}{Z:DX}{cls:Value}{dd:Option Addr}{H':Hp}(x:Ext w w')(h:xkOf w' Z cls dd H'):xkOf w Z cls dd H':=by
 obtain⟨C,dx,r,w2,row,M,e1,e2,e3,e4,h5⟩:=h
 exact⟨C,dx,r,w2,row,M,e1,e2,e3,x.trans e4,h5⟩
def ttD(f:DE):DT:=fun σ M Q=>f σ M fun x M1=>truD M1 x fun b=>Q b M1
section
variable{c:Cfg}{k:Ck}{Z:DX}{w0:Vw}{X:Cx}
theorem Good.gl(G:Good c k Z w0 X){x:Str}(h:k.glob x=true):Gl X x∧(x==("__debug__":Str))=false∧x≠"__name__":=by
 unfold Ck.glob at h
 simp only[Bool.and_eq_true,beq_iff_eq,Bool.not_eq_true',beq_eq_false_iff_ne] at h
 refine⟨?_,by simpa using h.1.2,h.2⟩
 unfold Gl Env.kindOf
 rw[G.sc];exact h.1.1
theorem Good.vis(G:Good c k Z w0 X){x:Str}(h:k.vis x=true):Vis X.env.scope x∧(x==("__debug__":Str))=false∧(x==("__classdict__":Str))=false:=by
 unfold Ck.vis at h
 simp only[Bool.and_eq_true,beq_iff_eq,Bool.not_eq_true',Bool.or_eq_true] at h
 refine⟨?_,h.1.2,h.2⟩
 unfold Vis
 rw[G.sc]
 rcases h.1.1 with(q | q) | q
 ·exact .inl q
 ·exact .inr (.inl q)
 ·exact .inr (.inr q)
theorem Good.locC(G:Good c k Z w0 X){x:Str}(h:k.locC x=true):Loc X.env.scope x∧(X.fn x=true∨X.env.scope.names.lookup x=some .local):=by
 unfold Ck.locC Ck.loc at h
 rw[Bool.or_eq_true,Bool.and_eq_true] at h
 rcases h with h | ⟨h1,h2⟩
 ·have hl:X.env.scope.names.lookup x=some .local:=by rw[G.sc];exact eq_of_beq h
  exact⟨.inl hl,.inr hl⟩
 ·refine⟨.inr (by rw[G.sc];exact eq_of_beq h2),.inl ?_⟩
  rw[Bool.or_eq_true,List.contains_iff_mem] at h1
  rcases h1 with z | z
  ·exact G.fnc z x
  ·exact G.fno x z
theorem Good.eK(G:Good c k Z w0 X):X.K=w0.K:=G.hK.trans G.wK.symm
theorem StOk.K{w w0:Vw}{σD:DEnv}{M:Store}{σ:L2.St}{H:Hp}(S:StOk w0 w σD M σ H):w.K=w0.K:=S.ext.K
theorem tF_of{f:DE}{σ:L2.St}{w:Vw}{σD:DEnv}{M:Store}{H:Hp}{Q:VK}{QD:DK}(S:StOk w0 w σD M σ H)(h:f σD M QD)(a:Aft w QD Q):tF w0 f σ H Q:=⟨w,σD,M,QD,S,h,a⟩
theorem attr_base{l:Expr}{nm:Str}{env:Env}(h:baseOk l=true):attributeBase l nm env (eval l env)=eval l env:=by
 unfold attributeBase
 split
 ·rename_i id np pos
  have:(id !="super" || nm=="__class__" || env.kindOf "super" !=some .globalImplicit || env.kindOf "__class__" !=some .free)=true:=by
   have:(id !=("super":Str))=true:=h
   rw[this];rfl
  simp only[this,if_true]
 ·rfl
theorem star_cons{x:Expr}{xs:List Expr}{env:Env}(h:noStar x=true):starEach (x::xs) env=(false,eval x env)::starEach xs env:=by
 cases x<;>first | rfl | cases h
theorem star_none{k:Ck}{env:Env}:∀(es:Es) (xs:List Expr),chkEs k es xs=true→(starEach xs env).all (fun p=> !p.1)=true
 | .nil,[],_=>rfl
 | .nil,_::_,h=>by simp[chkEs] at h
 | .cons e r,[],h=>by simp[chkEs] at h
 | .cons e r,x::xs,h=>by
  simp only[chkEs,Bool.and_eq_true] at h
  rw[star_cons h.1.2]
  simp only[List.all_cons,Bool.not_false,Bool.true_and]
  exact star_none r xs h.2
theorem any_back{pos:Pos}{l:List (Bool×Sem Value)}(h:l.all (fun p=> !p.1)=true):(backTo pos l).any (·.1)=false:=by
 induction l with
 | nil=>rfl
 | cons p r ih=>
  simp only[List.all_cons,Bool.and_eq_true,Bool.not_eq_true'] at h
  show(p.1 || (backTo pos r).any (·.1))=false
  rw[h.1,ih h.2];rfl
theorem all_back{pos:Pos}{l:List (Bool×Sem Value)}(h:l.all (fun p=> !p.1)=true):(backTo pos l).all (fun x=> !x.1)=true:=by
 induction l with
 | nil=>rfl
 | cons p r ih=>
  simp only[List.all_cons,Bool.and_eq_true] at h
  show((!p.1)&&(backTo pos r).all (fun x=> !x.1))=true
  rw[h.1,ih h.2];rfl
theorem pt_of{f:DE}{ex:Expr}(G:Good c k Z w0 X)(h:PE X ex (tF w0 f))(he:∀whole,isTrue ex X.env whole=(do let v ←whole;standAt ex.pos;holding [v] (truthy v))):PT X ex (tFT w0 (ttD f)):=by
 refine PT.imp (pt_truth h he) fun σ H Q ⟨w,σD,M,QD,S,g,a⟩=>?_
 refine tF_of S g fun v w' d M' x r rd q=>?_
 obtain⟨b,t1,t2⟩:=tru_sound (K:=X.K) (by rw[x.K,S.K,G.eK]) r rd q
 exact⟨b,t1,a b w' M' x r t2⟩
theorem pt_bool{f:DE}{ex:Expr}(h:PT X ex (tTest (tF w0 f)))(hb:∀σD M QD,f σD M QD→f σD M fun d M'=>(∃b,d= .bl b)∧QD d M'):PT X ex (tFT w0 (ttD f)):=by
 refine PT.imp h fun σ H Q ⟨w,σD,M,QD,S,g,a⟩=>?_
 refine tF_of S (hb _ _ _ g) fun v w' d M' x r rd q=>?_
 obtain⟨⟨b,rfl⟩,q⟩:=q
 cases rd_bl.mp rd
 exact⟨b,rfl,a b w' M' x r q⟩
theorem bin_sound{fa fb:DE}{g:D→D→Store→DK→Prop}{σ:L2.St}{H:Hp}{Q:VK}(h:tF w0 (fun σD M QD=>fa σD M fun x M1=>fb σD M1 fun y M2=>g x y M2 QD) σ H Q):tOp (rF w0 g) (tF w0 fa) (tF w0 fb) σ H Q:=by
 obtain⟨w,σD,M,QD,S,g0,a⟩:=h
 refine tF_of S g0 fun x w1 dx M1 x1 r1 rx q1=>?_
 refine tF_of (S.next x1 r1) q1 fun y w2 dy M2 x2 r2 ry q2=>?_
 exact⟨w2,M2,dx,dy,QD,rfl,(S.ext.trans x1).trans x2,r2,rx.ext x2,ry,q2,a.ext (x1.trans x2)⟩
theorem cmp_sound{fa fb:DE}{g:Store→D→D→(Bool→Prop)→Prop}{σ:L2.St}{H:Hp}{Q:VK}(h:tF w0 (fun σD M QD=>fa σD M fun x M1=>fb σD M1 fun y M2=>g M2 x y fun b=>QD (.bl b) M2) σ H Q):tOp (rB w0 g) (tF w0 fa) (tF w0 fb) σ H Q:=by
 obtain⟨w,σD,M,QD,S,g0,a⟩:=h
 refine tF_of S g0 fun x w1 dx M1 x1 r1 rx q1=>?_
 refine tF_of (S.next x1 r1) q1 fun y w2 dy M2 x2 r2 ry q2=>?_
 exact⟨w2,M2,dx,dy,_,rfl,((S.ext.trans x1).trans x2).K,r2,rx.ext x2,ry,q2,fun b hb=>a _ w2 _ M2 (x1.trans x2) r2 (rd_bl.mpr rfl) hb⟩
theorem pe_notT{a:Expr}{ta:TE}{pos:Pos}(ha:PE X a ta):PE X (.UnaryOp .Not a pos) (fun σ H Q=>ta σ H fun x H1=>∃b,TruV X.K x H1 b∧Q (.bl (!b)) H1):=by
 intro pins s σ H Q I h
 refine UnaryOp_ (thn (ha pins s σ H _ I h) fun v s1 ⟨x,H1,I1,r1,q1⟩=>?_)
 refine not_of (thn (tru_ok pins s1 σ H1 x v (fun b H2=>Q (.bl (!b)) H2) I1 r1 q1) fun b s2 ⟨H2,I2,q2⟩=>⟨.bl (!b),H2,I2,rfl,q2⟩)
theorem boot_ty(t:Ty):bootBuiltins (Str.ofString (tyName t))=some (.type (tyName t)):=by
 cases t
 ·exact boot_int
 ·exact boot_str
 ·exact boot_bool
 ·exact boot_list
 ·exact boot_tuple
 ·exact boot_dict
 ·show bootBuiltins "ValueError"=some (.type "ValueError")
  decide+kernel
theorem boot_bf(b:Bf):bootBuiltins (bfOf b).1=some (bfOf b).2:=by
 cases b<;>first | exact PySem.boot_len | exact boot_isinstance | exact PyProof.Rows.boot_min | exact PyProof.Rows.boot_max | exact boot_list | exact boot_tuple | exact boot_dict | exact boot_str | exact boot_int
end
def JOk(w1:Vw)(J:L2.It)(own:Own)(xs:List D):Prop:=∀w M,Ext w1 w→RS w M→still own xs M→∀i:Nat,
 (∀d,xs[i]?=some d→J.go i w.H∧∀x H',J.yld i w.H x H'→∃w',w'.H=H'∧Ext w w'∧RS w' M∧RD w' d x)∧(xs.length≤i→J.stop i w.H)
def iF(w0:Vw)(f:DEnv→Store→(Own→List D→Store→Prop)→Prop):TI:=fun σ H R=>∃w σD M QD,StOk w0 w σD M σ H∧f σD M QD∧
 ∀J w' own xs M',Ext w w'→RS w' M'→JOk w' J own xs→QD own xs M'→R J w'.H
section
variable{c:Cfg}{k:Ck}{Z:DX}{w0:Vw}{X:Cx}
theorem PI.imp{tg it:Expr}{t t':TI}(h:PI X tg it t)(q:∀σ H R,t' σ H R→t σ H R):PI X tg it t':=fun pins s σ H R I z=>h pins s σ H R I (q σ H R z)
theorem pi_seq{tg l:Expr}{tl:TE}(hl:PE X l tl):PI X tg l (fun σ H R=>tl σ H fun x H1=>(∃a,x= .ref a∧(∃xs,SqL X.K H1 a xs)∧R (Itl X.K a) H1)∨∃a,x= .ref a∧(∃xs,SqT X.K H1 a xs)∧R (Itt X.K a) H1):=by
 intro pins s σ H R I h
 refine thn (hl pins s σ H _ I h) fun v s1 ⟨x,H1,I1,r1,q1⟩=>?_
 have fp:∀b∈[s1.heap.objs.size],FpOk X pins H1 b:=fun b hb=>by
  have e:b=s1.heap.objs.size:=by simpa using hb
  subst e
  exact I1.fpOk (Nat.le_refl _) (I1.hok.fresh (Nat.le_refl _))
 rcases q1 with⟨a,e,⟨xs,hq⟩,q⟩ | ⟨a,e,⟨xs,hq⟩,q⟩
 ·subst e
  cases r1
  obtain⟨its,rv,p,hz⟩:=I1.list hq
  refine wpAny_pyIter_list p.isList ?_
  exact⟨s1.heap.objs.size,[s1.heap.objs.size],_,_,H1,rfl,I1.kept (t':=s1.toks) fun b o e=>Heap.get?_push_of_some _ e,turn_list a _,⟨_,Heap.get?_push_size _ rfl,rfl,rfl⟩,fp,q⟩
 ·subst e
  cases r1
  obtain⟨its,rv,p,hz⟩:=I1.tuple hq
  refine wpAny_pyIter_tuple (show s1.heap.IsTuple a its.toArray from p) ?_
  exact⟨s1.heap.objs.size,[s1.heap.objs.size],_,_,H1,rfl,I1.kept (t':=s1.toks) fun b o e=>Heap.get?_push_of_some _ e,turn_tuple a _,⟨_,Heap.get?_push_size _ rfl,rfl,rfl⟩,fp,q⟩
theorem pi_keys{tg l:Expr}{tl:TE}(hl:PE X l tl):PI X tg l (fun σ H R=>tl σ H fun x H1=>∃a kvs,x= .ref a∧H1 a=some (.dK kvs)∧∀o,(∀o' u,X.H₀ a≠some (.frz o' u))→R (Itd a o) (upd H1 a (.frz o (.dK kvs)))):=by
 intro pins s σ H R I h
 refine thn (hl pins s σ H _ I h) fun v s1 ⟨x,H1,I1,r1,a,kvs,e,hq,q⟩=>?_
 subst e
 cases r1
 obtain⟨o,es,ep,hd,ho,I2,nf⟩:=d_freeze I1 hq
 obtain⟨vs,rel,dd,hlen⟩:=frz_at (I2.hok a _ upd_same) hd
 obtain⟨_,hs,_⟩:=dk_of I1.hok hq
 refine wpAny_pyIter_dict hs dd ?_
 have fresh:upd H1 a (.frz o (.dK kvs)) s1.heap.objs.size=none:=I2.hok.fresh (Nat.le_refl _)
 have fp:∀b∈[s1.heap.objs.size],FpOk X pins (upd H1 a (.frz o (.dK kvs))) b:=fun b hb=>by
  have e:b=s1.heap.objs.size:=by simpa using hb
  subst e
  exact I2.fpOk (Nat.le_refl _) fresh
 rw[hlen]
 exact⟨s1.heap.objs.size,[s1.heap.objs.size],_,_,_,rfl,I2.kept (t':=s1.toks) fun b o e=>Heap.get?_push_of_some _ e,turn_dict a _ hd,⟨_,Heap.get?_push_size _ rfl,rfl,rfl⟩,fp,q o nf⟩
theorem rkv_at{w:Vw}:∀{ds:List (Key×D)} {vs:List (Key×V)} {i:Nat} {d:D},RKV w ds vs→(keysD ds)[i]?=some d→∃p,vs[i]?=some p∧RD w d (kV p.1)
 | [],vs,i,d,h,e=>by simp[keysD] at e
 |(k,x)::ds,vs,i,d,h,e=>by
  unfold RKV at h
  obtain⟨v,r,rfl,h1,h2⟩:=h
  cases i with
  | zero=>
   cases e
   refine⟨(k,v),rfl,?_⟩
   cases k with
   | inl i=>exact rd_int.mpr rfl
   | inr x=>exact rd_str.mpr rfl
  | succ i=>exact rkv_at (i:=i) h2 e
theorem jok_keys{w1:Vw}{n:Nat}{xs:List D}{o:Obj}{vs:List (Key×V)}(hn:n<w1.n)(h:w1.H (w1.μ n)=some (.frz o (.dK vs))):JOk w1 (Itd (w1.μ n) o) (.dct n) xs:=by
 intro w M x R st i
 obtain⟨kvs,st,rfl⟩:=st
 have q:=x.imm _ _ h rfl
 obtain⟨o',us,q1,q2⟩:=R.cell n _ st
 rw[x.μ n hn,q] at q1
 cases q1
 refine⟨fun d e=>?_,fun hl=>⟨vs,q,by rw[q2.length];unfold keysD at hl;rw[List.length_map] at hl;exact hl⟩⟩
 obtain⟨p,z1,z2⟩:=rkv_at q2 e
 refine⟨⟨vs,p,q,z1⟩,fun y H' ⟨e1,e2⟩=>⟨w,e1.symm,Ext.refl w,R,?_⟩⟩
 obtain⟨p',z3,z4⟩:=e2 vs q
 rw[z1] at z3
 cases z3
 rw[z4]
 exact z2
theorem jok_list{w1:Vw}{n:Nat}{xs:List D}(hK:X.K=w1.K)(hn:n<w1.n):JOk w1 (Itl X.K (w1.μ n)) (.lst n) xs:=by
 intro w M x R st i
 obtain⟨_,vs,q1,q2,_⟩:=R.listL st
 rw[x.μ n hn,x.K,←hK] at q1
 refine⟨fun d e=>?_,fun hl=>⟨vs,q1,by rw[q2.length];exact hl⟩⟩
 obtain⟨v,z1,z2⟩:=q2.get e
 refine⟨⟨vs,v,q1,z1⟩,fun y H' ⟨e1,e2⟩=>⟨w,e1.symm,Ext.refl w,R,?_⟩⟩
 have:=e2 vs q1
 rw[z1] at this
 cases this
 exact z2
theorem jok_enum{w1:Vw}{n:Nat}{xs:List D}(hK:X.K=w1.K)(hn:n<w1.n):JOk w1 (Ite X.K (w1.μ n)) (.enm n) xs:=by
 intro w M x R st i
 obtain⟨ys,st,rfl⟩:=st
 obtain⟨_,vs,q1,q2,_⟩:=R.listL st
 rw[x.μ n hn,x.K,←hK] at q1
 refine⟨fun d e=>?_,fun hl=>⟨vs,q1,by rw[q2.length];unfold enumD at hl;rw[List.length_mapIdx] at hl;exact hl⟩⟩
 unfold enumD at e
 rw[List.getElem?_mapIdx,Option.map_eq_some_iff] at e
 obtain⟨d,e,rfl⟩:=e
 obtain⟨v,z1,z2⟩:=q2.get e
 refine⟨⟨vs,v,q1,z1⟩,fun y H' ⟨p,u,hp,e1,e2,e3⟩=>?_⟩
 have:=e3 vs q1
 rw[z1] at this
 cases this
 subst e1 e2
 obtain⟨a1,a2,a3⟩:=new_tup R hp (RDs.cons (rd_int.mpr (rfl:V.int (i:Int)=_)) (RDs.cons z2 (RDs.nil w)))
 exact⟨_,rfl,a1,a2,a3⟩
theorem rds_zip{w:Vw}{ys zs:List D}{us vs:List V}(h1:RDs w ys us)(h2:RDs w zs vs){i:Nat}{d:D}(e:(zipT ys zs)[i]?=some d):∃x y u v,d= .tup [x,y]∧us[i]?=some u∧vs[i]?=some v∧RD w x u∧RD w y v:=by
 unfold zipT at e
 rw[List.getElem?_map,Option.map_eq_some_iff] at e
 obtain⟨p,e,rfl⟩:=e
 rw[List.getElem?_zip_eq_some] at e
 obtain⟨u,a1,a2⟩:=h1.get e.1
 obtain⟨v,b1,b2⟩:=h2.get e.2
 exact⟨_,_,u,v,rfl,a1,b1,a2,b2⟩
theorem jok_zip{w1:Vw}{n m:Nat}{xs:List D}(hK:X.K=w1.K)(hn:n<w1.n)(hm:m<w1.n):JOk w1 (Itz X.K (w1.μ n) (w1.μ m)) (.two n m) xs:=by
 intro w M x R st i
 obtain⟨ys,zs,st,st2,rfl⟩:=st
 obtain⟨_,us,q1,q2,_⟩:=R.listL st
 obtain⟨_,vs,p1,p2,_⟩:=R.listL st2
 rw[x.μ n hn,x.K,←hK] at q1
 rw[x.μ m hm,x.K,←hK] at p1
 refine⟨fun d e=>?_,fun hl=>⟨us,vs,q1,p1,?_⟩⟩
 ·obtain⟨dx,dy,u,v,rfl,a1,a2,a3,a4⟩:=rds_zip q2 p2 e
  refine⟨⟨us,vs,u,v,q1,p1,a1,a2⟩,fun y H' ⟨p,u',v',hp,e1,e2,e3,e4⟩=>?_⟩
  have h3:=e3 us q1
  have h4:=e4 vs p1
  rw[a1] at h3
  rw[a2] at h4
  cases h3
  cases h4
  subst e1 e2
  obtain⟨b1,b2,b3⟩:=new_tup R hp (RDs.cons a3 (RDs.cons a4 (RDs.nil w)))
  exact⟨_,rfl,b1,b2,b3⟩
 ·have l1:=q2.length
  have l2:=p2.length
  unfold zipT at hl
  rw[List.length_map,List.length_zip] at hl
  omega
theorem jok_tup{w1:Vw}{a:Addr}{vs:List V}{xs:List D}(hK:X.K=w1.K)(h:SqT w1.K w1.H a vs)(r:RDs w1 xs vs):JOk w1 (Itt X.K a) .no xs:=by
 intro w M x R st i
 have q1:=x.sqT h
 rw[x.K,←hK] at q1
 have q2:=r.ext x
 refine⟨fun d e=>?_,fun hl=>⟨vs,q1,by rw[q2.length];exact hl⟩⟩
 obtain⟨v,z1,z2⟩:=q2.get e
 refine⟨⟨vs,v,q1,z1⟩,fun y H' ⟨e1,e2⟩=>⟨w,e1.symm,Ext.refl w,R,?_⟩⟩
 have:=e2 vs q1
 rw[z1] at this
 cases this
 exact z2
theorem jok_rng{w1:Vw}{lo:Int}{n:Nat}:JOk w1 (Itr lo n) .no (intsD lo n):=by
 intro w M x R st i
 unfold intsD
 refine⟨fun d e=>?_,fun hl=>?_⟩
 ·rw[List.getElem?_map,Option.map_eq_some_iff] at e
  obtain⟨j,h1,rfl⟩:=e
  obtain⟨h2,h3⟩:=List.getElem?_eq_some_iff.mp h1
  have hj:j=i:=by simpa using h3.symm
  subst hj
  have h4:j<n:=by simpa using h2
  exact⟨h4,fun y H' ⟨e1,e2⟩=>⟨w,e1.symm,Ext.refl w,R,by rw[e2];exact rd_int.mpr rfl⟩⟩
 ·have:n≤i:=by simpa using hl
  exact this
theorem compOk_sc{X:Cx}{N':List Str}{scope:Scope}{cl:List (Str×Addr)}{C:Addr}{fp:List Addr}{pins:List (Addr×Obj)}{s:Shared}{H:Hp}:(cxC X N' scope cl C fp pins s H).env.scope=relabS scope X.env.scope:=rfl
theorem Good.block(G:Good c k Z w0 X)(hc:k.calm=true){N':List Str}{scope:Scope}(hn:N'.Nodup)(cl:List (Str×Addr))(C:Addr)(fp:List Addr)(pins:List (Addr×Obj))(s:Shared)(H:Hp):
  Good c {k with N:=N',sc:=relabS scope k.sc,cells:=false,own:=ownOf scope,tries:=false,raises:=[]} noX w0 (cxC X N' scope cl C fp pins s H) where
 hK:=G.hK
 wK:=G.wK
 N:=rfl
 nd:=hn
 sc:=by rw[compOk_sc,G.sc]
 calm:=fun _=>G.calm hc
 units:=G.units
 fns:=fun _ f x sp h1 h2=>by
  obtain⟨kk,f,fd,ps,ds,dvs,dD,sp0,h⟩:=G.fns hc f x sp h1 h2
  exact⟨kk,f,fd,ps,ds,dvs,dD,sp0,h⟩
 flen:=G.flen
 glb:=G.glb
 blt:=G.blt
 exc:=⟨E0,fun _ _ _ _ _ _ _ h=>by
  obtain⟨_,_,_,_,_,_,_,_,_,_,_,_,_,_,_,h⟩:=h
  exact h.elim,fun cls dd H' h=>by
  obtain⟨_,_,_,_,_,_,_,_,_,_,_,_,_,h⟩:=h
  exact h.elim⟩
 stk:=fun h=>by cases h
 rai:=fun _ h=>absurd h Bool.false_ne_true
 po:=fun _=>PassesOwn.never
 fnc:=fun h=>by cases h
 fno:=fun x hx=>by
  show(scope.names.any fun y=>y.1==x&&y.2==NameKind.cell)=true
  have hx:x∈(scope.names.filter fun y=>y.2==NameKind.cell).map (·.1):=hx
  obtain⟨y,hy,rfl⟩:=List.mem_map.mp hx
  obtain⟨h1,h2⟩:=List.mem_filter.mp hy
  rw[List.any_eq_true]
  exact⟨y,h1,by rw[beq_self_eq_true,Bool.true_and];exact h2⟩
theorem Good.tgt(G:Good c k Z w0 X):∀(is:List Nat) (ex:Expr),chkTgt k is ex=true→PG X ex (gF w0 is):=by
 have one:∀(i:Nat) (x:Str) (pos:Pos),k.N[i]?=some x→k.locC x=true→PG X (.Name x pos) (gName i):=fun i x pos h1 h2=>by
  obtain⟨l1,l2⟩:=G.locC h2
  exact pg_name G.nd (by rw[G.N];exact h1) l1 l2
 have many:∀(is:List Nat) (es:List Expr),chkTg k is es=true→PGs X es (gAll is)∧(assignEach es X.env).length=is.length∧(assignEach es X.env).findIdx? (·.1)=none:=by
  intro is
  induction is with
  | nil=>
   intro es h
   cases es with
   | nil=>exact⟨pgs_nil,rfl,rfl⟩
   | cons e es=>exact absurd h Bool.false_ne_true
  | cons i is ih=>
   intro es h
   cases es with
   | nil=>exact absurd h Bool.false_ne_true
   | cons e es=>
    cases e with
    | Name x pos=>
     change (_&&_)=true at h
     simp only[Bool.and_eq_true,beq_iff_eq] at h
     obtain⟨h1,h2,h3⟩:=ih es h.2
     refine⟨pgs_cons (one i x pos h.1.1 h.1.2) h1 rfl,?_,?_⟩
     ·show(assignEach es X.env).length+1=is.length+1
      rw[h2]
     ·show((false,_)::assignEach es X.env).findIdx? (·.1)=none
      rw[List.findIdx?_cons,h3]
      rfl
    | _=>exact absurd h Bool.false_ne_true
 intro is ex h
 cases ex with
 | Name x pos=>
  match is,h with
  | [i],h=>
   change (_&&_)=true at h
   simp only[Bool.and_eq_true,beq_iff_eq] at h
   exact pg_one (one _ x pos h.1 h.2)
  | [],h=>exact absurd h Bool.false_ne_true
  | _::_::_,h=>exact absurd h Bool.false_ne_true
 | Tuple es kk pos=>
  change (_&&_)=true at h
  simp only[Bool.and_eq_true,decide_eq_true_eq] at h
  obtain⟨h1,h2,h3⟩:=many is es h.2
  exact pg_many h.1.2 (pg_tup (G.calm h.1.1) h1 h2 h3)
 | _=>exact absurd h Bool.false_ne_true
theorem cap_rel{w:Vw}{js:List (Option Nat)}{σD:DEnv}{σ:L2.St}(h:REnv w σD σ):REnv w (capD js σD) (capSt js σ):=by
 refine⟨by unfold capD capSt;simp,fun i d e=>?_⟩
 unfold capD at e
 unfold capSt
 rw[List.getElem?_map] at e ⊢
 cases hj:js[i]? with
 | none=>rw[hj] at e;cases e
 | some o=>
  rw[hj] at e
  simp only[Option.map_some,Option.some.injEq] at e ⊢
  cases o with
  | none=>cases e
  | some j=>
   simp only[Option.bind_some] at e ⊢
   cases hz:σD[j]? with
   | none=>rw[hz] at e;cases e
   | some z=>
    rw[hz] at e
    have e':z=some d:=e
    subst e'
    obtain⟨v,q1,q2⟩:=h.2 j d hz
    exact⟨v,by rw[q1];rfl,q2⟩
theorem comp_run{w1:Vw}{J:L2.It}{own:Own}{xs:List D}{tg:List Nat}{cd:DT}{el:DE}{M1:Store}{H1:Hp}{σD:DEnv}{σ:L2.St}{QD:Store→Prop}{Q:VK}(e0:Ext w0 w1)(hH:w1.H=H1)(R1:RS w1 M1)(env:REnv w1 σD σ)(jk:JOk w1 J own xs)
  (h:compD own xs tg cd el M1.length xs σD (M1++[.lst []]) QD) (a:Aft w1 (fun d M=>d= .ref M1.length∧QD M) Q):∀p,H1 p=none→∃W:Nat→Nat→L2.St→Hp→Prop,(∃m,W 0 m σ (upd H1 p (.lst [])))∧
   ∀i m σc Hc,W i m σc Hc→(J.stop i Hc∧Q (.ref p) Hc)∨(J.go i Hc∧∀x H',J.yld i Hc x H'→gF w0 tg x σc H' fun σ2 H2=>tFT w0 cd σ2 H2 fun b H3=>if b=true then tF w0 el σ2 H3 fun y H4=>∃acc,H4 p=some (.lst acc)∧acc.length<sizeLine∧
    ∃m',m'<m∧W (i+1) m' σ2 (upd H4 p (.lst (acc++[y]))) else ∃m',m'<m∧W (i+1) m' σ2 H3):=by
 intro p hp
 subst hH
 obtain⟨x1,R2,rz⟩:=new_list (xs:=[]) R1 hp (RDs.nil w1)
 have hz:M1.length< (w1.push p (.lst [])).n∧p=(w1.push p (.lst [])).μ M1.length:=by
  obtain⟨z1,z2⟩:=rd_ref.mp rz
  exact⟨z1,by injection z2⟩
 refine⟨fun i m σc Hc=>∃w σE M,StOk w0 w σE M σc Hc∧Ext (w1.push p (.lst [])) w∧i≤xs.length∧m=xs.length - i∧compD own xs tg cd el M1.length (xs.drop i) σE M QD,⟨xs.length,w1.push p (.lst []),σD,_,⟨rfl,e0.trans x1,R2,env.ext x1⟩,Ext.refl _,Nat.zero_le _,rfl,h⟩,?_⟩
 rintro i m σc Hc ⟨w,σE,M,S,x2,hi,rfl,hc⟩
 have x12:Ext w1 w:=x1.trans x2
 have hp':w.μ M1.length=p:=(x2.μ _ hz.1).trans hz.2.symm
 have hlt:M1.length<w.n:=Nat.lt_of_lt_of_le hz.1 x2.n
 have stp:∀st:still own xs M,_:=fun st=>jk w M x12 S.rs st i
 rw[S.heap] at stp
 by_cases hil:i<xs.length
 ·rw[List.drop_eq_getElem_cons hil] at hc
  obtain⟨st,hc⟩:=hc
  obtain⟨j1,j2⟩:=(stp st).1 xs[i] (List.getElem?_eq_getElem hil)
  refine .inr ⟨j1,fun x H' hy=>?_⟩
  obtain⟨w3,rfl,x3,R3,rd3⟩:=j2 x H' hy
  refine⟨w3,σE,M,xs[i],_,⟨rfl,S.ext.trans x3,R3,S.env.ext x3⟩,rd3,hc,fun σ2 σE2 env2 q2=>?_⟩
  refine⟨w3,σE2,M,_,⟨rfl,S.ext.trans x3,R3,env2⟩,q2,fun b w4 M4 x4 R4 q4=>?_⟩
  cases b with
  | true=>
   rw[if_pos rfl] at q4 ⊢
   refine tF_of ⟨rfl,(S.ext.trans x3).trans x4,R4,env2.ext x4⟩ q4 fun y w5 dy M5 x5 R5 rd5 q5=>?_
   obtain⟨acc,g1,g2,g3⟩:=q5
   obtain⟨hn,vs,z1,z2⟩:=R5.list g1
   have x35:Ext w w5:=(x3.trans x4).trans x5
   have hp5:w5.μ M1.length=p:=(x35.μ _ hlt).trans hp'
   obtain⟨y1,y2⟩:=write_list R5 hn z1 (z2.append (RDs.cons rd5 (RDs.nil w5)))
   rw[hp5] at z1 y1 y2
   refine⟨vs,z1,by rw[z2.length];exact g2,xs.length - (i+1),by omega,w5.alloc p (.lst (vs++[y])),σE2,_,⟨rfl,(S.ext.trans x35).trans y1,y2,(env2.ext (x4.trans x5)).ext y1⟩,(x2.trans x35).trans y1,hil,rfl,g3⟩
  | false=>
   rw[if_neg Bool.false_ne_true] at q4 ⊢
   exact⟨xs.length - (i+1),by omega,w4,σE2,M4,⟨rfl,(S.ext.trans x3).trans x4,R4,env2.ext x4⟩,(x2.trans x3).trans x4,hil,rfl,q4⟩
 ·rw[List.drop_eq_nil_of_le (by omega)] at hc
  obtain⟨st,hq⟩:=hc
  refine .inl ⟨(stp st).2 (by omega),?_⟩
  have:=a (.ref p) w (.ref M1.length) M x12 S.rs (rd_ref.mpr ⟨hlt,by rw[hp']⟩) ⟨rfl,hq⟩
  rw[S.heap] at this
  exact this
end
def SoundE(c:Cfg)(e:E):Prop:=∀(k:Ck) (Z:DX) (w0:Vw) (X:Cx) (ex:Expr),Good c k Z w0 X→chkE k e ex=true→PE X ex (tF w0 (te c Z e))∧(noIf e=true→PT X ex (tFT w0 (ttD (te c Z e))))
def SoundEs(c:Cfg)(es:Es):Prop:=∀(k:Ck) (Z:DX) (w0:Vw) (X:Cx) (ls:List Expr),Good c k Z w0 X→chkEs k es ls=true→PA X ls (tFA w0 (tes c Z es))∧
 ∀(b:Bool) (pos:Pos),PE X (.BoolOp (if b then .And else .Or) ls pos) (tF w0 (tbop c Z b es))∧(noIfs es=true→PW X (.BoolOp (if b then .And else .Or) ls pos) (tFT w0 (ttD (tbop c Z b es))))
def SoundO(c:Cfg)(eo:Eo):Prop:=(∀(k:Ck) (Z:DX) (w0:Vw) (X:Cx) (lo:Option Expr),Good c k Z w0 X→chkO k eo lo=true→PO X lo (tFO w0 (teo c Z eo)))∧
 ∀(k:Ck) (Z:DX) (w0:Vw) (X:Cx) (ls:List Expr),Good c k Z w0 X→chkC k eo ls=true→(∃x,ls=[x]∧PT X x (tFT w0 (tcd c Z eo)))∨(ls=[]∧eo= .no)
def SoundI(c:Cfg)(it:It):Prop:=∀(k:Ck) (Z:DX) (w0:Vw) (X:Cx) (tg ex:Expr),Good c k Z w0 X→chkIt k it ex=true→itTg it tg=true→PI X tg ex (iF w0 (tit c Z it))
section
variable{c:Cfg}{k:Ck}{Z:DX}{w0:Vw}{X:Cx}
theorem tF_val{d:D}{v:V}{σ:L2.St}{H:Hp}{Q:VK}(hv:∀w:Vw,w.K=w0.K→RD w d v)(h:tF w0 (fun _ M Q=>Q d M) σ H Q):tC v σ H Q:=by
 obtain⟨w,σD,M,QD,S,g,a⟩:=h
 have:=a v w d M (Ext.refl w) S.rs (hv w S.K) g
 rw[S.heap] at this
 exact this
theorem both{f:DE}{ex:Expr}{b:Bool}(G:Good c k Z w0 X)(h:PE X ex (tF w0 f))(he:∀whole,isTrue ex X.env whole=(do let v ←whole;standAt ex.pos;holding [v] (truthy v))):
  PE X ex (tF w0 f)∧(b=true→PT X ex (tFT w0 (ttD f))):=⟨h,fun _=>pt_of G h he⟩
theorem sound_call{f:Nat}{es:Es}{x:Str}{np pos:Pos}{ls:List Expr}(G:Good c k Z w0 X)(hc:k.calm=true)(hf:k.FN[f]?=some x)(hg:k.glob x=true)(hs:chkEs k es ls=true)(ih:PA X ls (tFA w0 (tes c Z es))):
  PE X (.Call (.Name x np) ls [] pos) (tF w0 (te c Z (.call f es))):=by
 obtain⟨g1,g2,g3⟩:=G.gl hg
 obtain⟨E,ps,xk⟩:=G.exc
 cases hsp:c.Γ[f]? with
 | none=>
  have h1:=(List.getElem?_eq_some_iff.mp hf).1
  have h2:=List.getElem?_eq_none_iff.mp hsp
  rw[G.flen] at h1
  omega
 | some sp=>
  obtain⟨kk,fa,fd,pr,ds,dvs,dD,sp0,F,hr,hm,hk,hb,hd,hD,hsp0⟩:=G.fns hc f x sp hf hsp
  have key:∀σ H Q,tF w0 (te c Z (.call f es)) σ H Q→tFA w0 (tes c Z es) σ H fun vs H1=>spF X.K sp0 (vs++dvs) H1 Q E:=by
   rintro σ H Q ⟨w,σD,M,QD,S,g,a⟩
   refine⟨w,σD,M,_,S,g,fun vs w' ds' M' x' r' rd' q'=>?_⟩
   have q':sp ds' M' QD Z:=by
    have:=q'
    simp only[hsp] at this
    exact this
   have hKw:w'.K=X.K:=by rw[x'.K,S.K,G.eK]
   exact⟨w',ds'++dD,M',QD,Z,hKw,rfl,r',rd'.append (hD w' hKw),hsp0 _ _ _ _ q',a.ext x',fun cls dd H' hx=>xk cls dd H' (xkOf_mono (S.ext.trans x') hx)⟩
  cases ls with
  | nil=>
   refine PE.imp (pe_call0 F hr g1 hm hk hb hd ps g2) fun σ H Q h=>?_
   have h2:=key σ H Q h
   obtain⟨w,σD,M,QD,S,g,a⟩:=h2
   cases es with
   | nil=>
    have:=a [] w [] M (Ext.refl w) S.rs (RDs.nil w) g
    rw[S.heap] at this
    exact this
   | cons e r=>exact absurd hs Bool.false_ne_true
  | cons l ls=>
   cases es with
   | nil=>exact absurd hs Bool.false_ne_true
   | cons e r=>
    change (_&&_)=true at hs
    simp only[Bool.and_eq_true] at hs
    exact PE.imp (pe_call F hr g1 hm hk hb hd ps ih g2 (star_cons hs.1.2) (any_back (star_none r ls hs.2))) key
theorem sound_var{i:Nat}{x:Str}{pos:Pos}(G:Good c k Z w0 X)(h1:k.N[i]?=some x)(h2:k.vis x=true):PE X (.Name x pos) (tF w0 (te c Z (.var i))):=by
 obtain⟨v1,v2,v3⟩:=G.vis h2
 refine PE.imp (pe_var (i:=i) (by rw[G.N];exact h1) v1 v2 v3) fun σ H Q ⟨w,σD,M,QD,S,g,a⟩=>?_
 unfold te at g
 split at g
 ·rename_i d e
  obtain⟨v,q1,q2⟩:=S.env.2 i d e
  have:=a v w d M (Ext.refl w) S.rs q2 g
  rw[S.heap] at this
  exact⟨v,q1,this⟩
 ·exact g.elim
theorem sound_glb{g:Nat}{x:Str}{pos:Pos}(G:Good c k Z w0 X)(h1:k.GN[g]?=some x)(h2:k.glob x=true):PE X (.Name x pos) (tF w0 (te c Z (.glb g))):=by
 obtain⟨g1,g2,g3⟩:=G.gl h2
 cases hd:c.G[g]? with
 | none=>
  refine PE.imp (t:=fun _ _ _=>False) (fun _ _ _ _ _ _ h=>h.elim) fun σ H Q ⟨w,σD,M,QD,S,q,a⟩=>?_
  unfold te at q
  rw[hd] at q
  exact q
 | some d=>
  obtain⟨v,u,q1,q2,q3⟩:=G.glb g x d h1 hd
  refine PE.imp (pe_glob g1 q1 q2 g2) fun σ H Q h=>tF_val (d:=d) (fun w hw=>q3 w (by rw[hw,G.eK])) ?_
  obtain⟨w,σD,M,QD,S,q,a⟩:=h
  unfold te at q
  rw[hd] at q
  exact⟨w,σD,M,QD,S,q,a⟩
theorem stars{es:Es}{l:Expr}{ls:List Expr}{pos:Pos}(hs:chkEs k es (l::ls)=true):starEach (l::ls) X.env=(false,eval l X.env)::starEach ls X.env∧(backTo pos (starEach ls X.env)).any (·.1)=false:=by
 cases es with
 | nil=>exact absurd hs Bool.false_ne_true
 | cons e r=>
  change (_&&_)=true at hs
  simp only[Bool.and_eq_true] at hs
  exact⟨star_cons hs.1.2,any_back (star_none r ls hs.2)⟩
theorem sound_bf{b:Bf}{es:Es}{x:Str}{np pos:Pos}{l:Expr}{ls:List Expr}(G:Good c k Z w0 X)(hc:k.calm=true∨bfCalm0 b=true)(hx:x=(bfOf b).1)(hg:k.glob x=true)(hB:x∈k.BN)(hs:chkEs k es (l::ls)=true)(ih:PA X (l::ls) (tFA w0 (tes c Z es))):
  PE X (.Call (.Name x np) (l::ls) [] pos) (tF w0 (te c Z (.bf b es))):=by
 obtain⟨g1,g2,g3⟩:=G.gl hg
 have hm:=G.blt x hB
 have hb:bootBuiltins x=some (bfOf b).2:=by rw[hx];exact boot_bf b
 have snd:=bf_sound (w0:=w0) G.eK b (hc.imp G.calm id)
 have st:starEach (l::ls) X.env=(false,eval l X.env)::starEach ls X.env∧(backTo pos (starEach ls X.env)).any (·.1)=false:=by
  cases es with
  | nil=>exact absurd hs Bool.false_ne_true
  | cons e r=>
   change (_&&_)=true at hs
   simp only[Bool.and_eq_true] at hs
   exact⟨star_cons hs.1.2,any_back (star_none r ls hs.2)⟩
 have key:∀σ H Q,tF w0 (te c Z (.bf b es)) σ H Q→tCB (rC w0 (bfD w0.K b)) (tFA w0 (tes c Z es)) σ H Q:=by
  rintro σ H Q ⟨w,σD,M,QD,S,g,a⟩
  refine⟨w,σD,M,_,S,g,fun vs w' ds M' x' r' rd' q'=>?_⟩
  rw[←G.wK] at q'
  exact⟨w',M',ds,QD,rfl,by rw[x'.K,S.K],r',rd',q',a.ext x'⟩
 cases hv:(bfOf b).2 with
 | builtin id=>
  rw[hv] at hb snd
  exact PE.imp (pe_callB snd g1 hm hb ih g3 g2 st.1 st.2) key
 | type T=>
  rw[hv] at hb snd
  exact PE.imp (pe_callTy snd g1 hm hb ih g3 g2 st.1 st.2) key
 | _=>cases b<;>cases hv
theorem sound_mt{m:Mt}{o:E}{es:Es}{l:Expr}{ap cp:Pos}{ls:List Expr}(G:Good c k Z w0 X)(hb:baseOk l=true)(hl:(ap.endLine==cp.line)=true)(hn:ls.length<30)(hs:chkEs k es ls=true)(ho:PE X l (tF w0 (te c Z o)))(ih:PA X ls (tFA w0 (tes c Z es))):
  PE X (.Call (.Attribute l (mtN m) ap) ls [] cp) (tF w0 (te c Z (.mt m o es))):=by
 have snd:=mt_sound (w0:=w0) G.eK G.units m
 cases ls with
 | nil=>
  refine PE.imp (pe_bm0 (mt_pa m) (mt_slot m) (mt_ty m) snd ho (attr_base hb) hl) fun σ H Q ⟨w,σD,M,QD,S,g,a⟩=>?_
  refine tF_of S g fun x w1 dx M1 x1 r1 rx q1=>?_
  have ty:=mtK_ty r1 rx q1.1
  rw[x1.K,S.K,←G.eK] at ty
  refine⟨ty,?_⟩
  cases es with
  | nil=>exact⟨w1,M1,dx,[],QD,rfl,by rw[x1.K,S.K],r1,rx,RDs.nil w1,q1.2,a.ext x1⟩
  | cons e r=>exact absurd hs Bool.false_ne_true
 | cons l' ls=>
  cases es with
  | nil=>exact absurd hs Bool.false_ne_true
  | cons e r=>
   have hs':=hs
   change (_&&_)=true at hs'
   simp only[Bool.and_eq_true] at hs'
   have few:((backTo cp (starEach (l'::ls) X.env)).all (fun x=> !x.1)&&(backToKw cp (keywordEach [] X.env)).all (fun x=>x.1.isSome)
     &&decide ((l'::ls).length+([]:List Keyword).length+(if ([]:List Keyword).isEmpty then 0 else 1)<30))=true:=by
    rw[all_back (star_none _ _ hs)]
    show(true&&true&&decide ((l'::ls).length+0+0<30))=true
    simpa using hn
   refine PE.imp (pe_bm (mt_pa m) (mt_slot m) (mt_ty m) snd ho ih (attr_base hb) few hl (star_cons hs'.1.2) (any_back (star_none r ls hs'.2))) fun σ H Q ⟨w,σD,M,QD,S,g,a⟩=>?_
   refine tF_of S g fun x w1 dx M1 x1 r1 rx q1=>?_
   have ty:=mtK_ty r1 rx q1.1
   rw[x1.K,S.K,←G.eK] at ty
   refine⟨ty,w1,σD,M1,_,S.next x1 r1,q1.2,fun vs w2 ds M2 x2 r2 rd2 q2=>?_⟩
   exact⟨w2,M2,dx,ds,QD,rfl,by rw[x2.K,x1.K,S.K],r2,rx.ext x2,rd2,q2,a.ext (x1.trans x2)⟩
theorem sound_sl{a:E}{lo hi:Eo}{l:Expr}{x y:Option Expr}{p2 pos:Pos}(G:Good c k Z w0 X)(ha:PE X l (tF w0 (te c Z a)))(h1:PO X x (tFO w0 (teo c Z lo)))(h2:PO X y (tFO w0 (teo c Z hi))):
  PE X (.Subscript l (.Slice x y none p2) pos) (tF w0 (te c Z (.sl a lo hi))):=by
 refine PE.imp (pe_slice (sl_sound (w0:=w0) G.eK) ha h1 h2) fun σ H Q ⟨w,σD,M,QD,S,g,aq⟩=>?_
 refine tF_of S g fun x w1 dx M1 x1 r1 rx q1=>?_
 refine⟨w1,σD,M1,_,S.next x1 r1,q1,fun l w2 M2 x2 r2 q2=>?_⟩
 refine⟨w2,σD,M2,_,(S.next x1 r1).next x2 r2,q2,fun h w3 M3 x3 r3 q3=>?_⟩
 exact⟨w3,M3,dx,QD,rfl,by rw[x3.K,x2.K,x1.K,S.K],r3,rx.ext (x2.trans x3),q3,aq.ext ((x1.trans x2).trans x3)⟩
theorem sound_dct{a b:E}{l r:Expr}{pos:Pos}(G:Good c k Z w0 X)(ha:PE X l (tF w0 (te c Z a)))(hb:PE X r (tF w0 (te c Z b))):PE X (.Dict [some l] [r] pos) (tF w0 (te c Z (.dct a b))):=by
 refine PE.imp (pe_disp (pps_cons ha hb pps_nil) rfl rfl (by simp) (by simp)) fun σ H Q ⟨w,σD,M,QD,S,g,aq⟩=>?_
 intro p hp
 rw[←S.heap] at hp
 obtain⟨y1,y2,y3⟩:=new_dict (xs:=[]) (vs:=[]) S.rs hp (by unfold RKV;rfl)
 have hup:upd H p (.dK [])=(w.push p (.dK [])).H:=by rw[←S.heap];rfl
 have eμ:(w.push p (.dK [])).μ M.length=p:=by
  show(if M.length=w.n then p else w.μ M.length)=p
  rw[if_pos S.rs.len.symm]
 have ln:M.length< (w.push p (.dK [])).n:=by show M.length<w.n+1;rw[S.rs.len];omega
 rw[hup]
 refine tF_of (S.next y1 y2) g fun x w1 dx M1 x1 r1 rx q1=>?_
 refine tF_of ((S.next y1 y2).next x1 r1) q1 fun y w2 dy M2 x2 r2 ry q2=>?_
 obtain⟨kk,e1,e2,e3⟩:=q2
 obtain⟨hn,vs,u1,u2⟩:=r2.dict e2
 rw[(x1.trans x2).μ _ ln,eμ] at u1
 have ev:vs=[]:=by have:=u2.length;exact List.length_eq_zero_iff.mp (by simpa using this)
 subst ev
 cases keyD_kV e1 (rx.ext x2)
 refine⟨u1,[(kk,y)],rfl,by simp,?_⟩
 have u1':w2.H (w2.μ M.length)=some (.dK []):=by rw[(x1.trans x2).μ _ ln,eμ];exact u1
 obtain⟨t1,t2⟩:=write_dict (vs:=[(kk,y)]) (xs:=[(kk,dy)]) r2 hn u1' (by
  have:=(show RKV w2 [] [] by unfold RKV;rfl).put (k:=kk) ry
  exact this)
 have rr:RD (w2.alloc (w2.μ M.length) (.dK [(kk,y)])) (.ref M.length) (.ref p):=(y3.ext (x1.trans x2)).ext t1
 have:=aq _ _ _ _ (((y1.trans x1).trans x2).trans t1) t2 rr e3
 have hf:(w2.alloc (w2.μ M.length) (.dK [(kk,y)])).H=upd w2.H p (.dK (mergeK [] [(kk,y)])):=by
  show upd w2.H (w2.μ M.length) (.dK [(kk,y)])=_
  rw[(x1.trans x2).μ _ ln,eμ]
  rfl
 rw[←hf]
 exact this
theorem sound_dct2{a b d e:E}{l r l2 r2:Expr}{pos:Pos}(G:Good c k Z w0 X)(ha:PE X l (tF w0 (te c Z a)))(hb:PE X r (tF w0 (te c Z b)))(hd:PE X l2 (tF w0 (te c Z d)))(he:PE X r2 (tF w0 (te c Z e))):PE X (.Dict [some l,some l2] [r,r2] pos) (tF w0 (te c Z (.dct2 a b d e))):=by
 refine PE.imp (pe_disp (pps_cons ha hb (pps_cons hd he pps_nil)) rfl rfl (by simp) (by simp)) fun σ H Q ⟨w,σD,M,QD,S,g,aq⟩=>?_
 intro p hp
 rw[←S.heap] at hp
 obtain⟨y1,y2,y3⟩:=new_dict (xs:=[]) (vs:=[]) S.rs hp (by unfold RKV;rfl)
 have hup:upd H p (.dK [])=(w.push p (.dK [])).H:=by rw[←S.heap];rfl
 have eμ:(w.push p (.dK [])).μ M.length=p:=by
  show(if M.length=w.n then p else w.μ M.length)=p
  rw[if_pos S.rs.len.symm]
 have ln:M.length< (w.push p (.dK [])).n:=by show M.length<w.n+1;rw[S.rs.len];omega
 rw[hup]
 have S0:=S.next y1 y2
 refine tF_of S0 g fun x w1 dx M1 x1 r1 rx q1=>?_
 have S1:=S0.next x1 r1
 refine tF_of S1 q1 fun y w2 dy M2 x2 r2 ry q2=>?_
 have S2:=S1.next x2 r2
 refine tF_of S2 q2 fun z w3 dz M3 x3 r3 rz q3=>?_
 have S3:=S2.next x3 r3
 refine tF_of S3 q3 fun u w4 du M4 x4 r4 ru q4=>?_
 obtain⟨kk,k2,e1,e2,e3,e4⟩:=q4
 have xx:=((x1.trans x2).trans x3).trans x4
 obtain⟨hn,vs,u1,u2⟩:=r4.dict e3
 rw[xx.μ _ ln,eμ] at u1
 have ev:vs=[]:=by have:=u2.length;exact List.length_eq_zero_iff.mp (by simpa using this)
 subst ev
 cases keyD_kV e1 (rx.ext ((x2.trans x3).trans x4))
 cases keyD_kV e2 (rz.ext x4)
 refine⟨u1,[(kk,y),(k2,u)],rfl,by simp,?_⟩
 have u1':w4.H (w4.μ M.length)=some (.dK []):=by rw[xx.μ _ ln,eμ];exact u1
 have rk:RKV w4 (putD (putD [] kk dy) k2 du) (putK (putK [] kk y) k2 u):=((show RKV w4 [] [] by unfold RKV;rfl).put (k:=kk) (ry.ext (x3.trans x4))).put (k:=k2) ru
 obtain⟨t1,t2⟩:=write_dict (vs:=putK (putK [] kk y) k2 u) (xs:=putD [(kk,dy)] k2 du) r4 hn u1' rk
 have rr:RD (w4.alloc (w4.μ M.length) (.dK (putK (putK [] kk y) k2 u))) (.ref M.length) (.ref p):=(y3.ext xx).ext t1
 have:=aq _ _ _ _ ((y1.trans xx).trans t1) t2 rr e4
 have hf:(w4.alloc (w4.μ M.length) (.dK (putK (putK [] kk y) k2 u))).H=upd w4.H p (.dK (mergeK [] [(kk,y),(k2,u)])):=by
  show upd w4.H (w4.μ M.length) (.dK (putK (putK [] kk y) k2 u))=_
  rw[xx.μ _ ln,eμ]
  rfl
 rw[←hf]
 exact this
theorem sound_ix{a b:E}{l r:Expr}{pos:Pos}(G:Good c k Z w0 X)(hn:noSlice r=true)(ha:PE X l (tF w0 (te c Z a)))(hb:PE X r (tF w0 (te c Z b))):PE X (.Subscript l r pos) (tF w0 (te c Z (.ix a b))):=by
 have pl:PlainIx r:=by
  intro o i
  cases r<;>first | rfl | cases hn
 refine PE.imp (pe_ix (ix_sound (w0:=w0) G.eK G.units) ha hb pl) fun σ H Q ⟨w,σD,M,QD,S,g,aq⟩=>?_
 refine tF_of S g fun x w1 dx M1 x1 r1 rx q1=>?_
 refine tF_of (S.next x1 r1) q1 fun y w2 dy M2 x2 r2 ry q2=>?_
 exact⟨w2,M2,dx,dy,_,rfl,by rw[x2.K,x1.K,S.K],r2,rx.ext x2,ry,q2,fun d v hq hr=>aq v w2 d M2 (x1.trans x2) r2 hr hq⟩
theorem sound_comp{N':List Str}{js:List (Option Nat)}{tg:List Nat}{it:It}{cd:Eo}{e:E}{el t iter:Expr}{ifs:List Expr}{scope:Scope}{pos:Pos}(G:Good c k Z w0 X)(hc:k.calm=true)(ho:compOk k.sc k.N N' js scope=true)(hns:noSet iter=true)(hn:N'.Nodup)
  (hi:PI X t iter (iF w0 (tit c Z it))) (ht:chkTgt {k with N:=N',sc:=relabS scope k.sc,cells:=false,own:=ownOf scope,tries:=false,raises:=[]} tg t=true) (hd:chkC {k with N:=N',sc:=relabS scope k.sc,cells:=false,own:=ownOf scope,tries:=false,raises:=[]} cd ifs=true) (he:chkE {k with N:=N',sc:=relabS scope k.sc,cells:=false,own:=ownOf scope,tries:=false,raises:=[]} e el=true) (ihe:SoundE c e) (ihd:SoundO c cd):
  PE X (.ListComp el [⟨t,iter,ifs,0⟩] scope pos) (tF w0 (te c Z (.comp N' js tg it cd e)))∧
  ∀(i:Nat) (x:Str) (px spos:Pos),X.N[i]?=some x→X.env.scope.names.lookup x=some .local→swapsWith (.ListComp el [⟨t,iter,ifs,0⟩] scope pos) (some (.Name x px)) spos.line X.env=pure true→
   PS X (.Assign [.Name x px] (.ListComp el [⟨t,iter,ifs,0⟩] scope pos) spos) (fun R σ H=>tF w0 (te c Z (.comp N' js tg it cd e)) σ H fun v H1=>R.nx (σ.set i (some v)) H1):=by
 have ho':compOk X.env.scope X.N N' js scope=true:=by rw[G.sc,G.N];exact ho
 have hf:∀x,foldedSetIterable iter X.env x=pure x:=by
  intro x
  cases iter<;>first | rfl | cases hns
 have hg:=fun cl C fp pins s H=>(Good.block G hc (scope:=scope) hn cl C fp pins s H).tgt tg t ht
 have hel:=fun cl C fp pins s H=>(ihe _ _ _ _ el (Good.block G hc (scope:=scope) hn cl C fp pins s H) he).1
 have key:∀σ H Q,tF w0 (te c Z (.comp N' js tg it cd e)) σ H Q→iF w0 (tit c Z it) σ H fun J H1=>∀p,H1 p=none→∃W:Nat→Nat→L2.St→Hp→Prop,(∃m,W 0 m (capSt js σ) (upd H1 p (.lst [])))∧
   ∀i m σc Hc,W i m σc Hc→(J.stop i Hc∧Q (.ref p) Hc)∨(J.go i Hc∧∀x H',J.yld i Hc x H'→gF w0 tg x σc H' fun σ2 H2=>tFT w0 (tcd c noX cd) σ2 H2 fun b H3=>if b=true then tF w0 (te c noX e) σ2 H3 fun y H4=>∃acc,H4 p=some (.lst acc)∧acc.length<sizeLine∧
    ∃m',m'<m∧W (i+1) m' σ2 (upd H4 p (.lst (acc++[y]))) else ∃m',m'<m∧W (i+1) m' σ2 H3):=by
  rintro σ H Q ⟨w,σD,M,QD,S,g,a⟩
  refine⟨w,σD,M,_,S,g,fun J w1 own xs M1 x1 R1 jk q1=>?_⟩
  exact comp_run (S.ext.trans x1) rfl R1 (cap_rel (S.env.ext x1)) jk q1 fun v w2 d M2 x2 r2 rd2 ⟨e2,q2⟩=>a v w2 d M2 (x1.trans x2) r2 rd2 (by rw[e2];exact q2)
 have nocd:∀{σ:L2.St} {H:Hp} {P:Bool→Hp→Prop},cd= .no→tFT w0 (tcd c noX cd) σ H P→P true H:=by
  intro σ H P e h
  subst e
  obtain⟨w,σD,M,QD,S,g,a⟩:=h
  have:=a true w M (Ext.refl w) S.rs g
  rw[S.heap] at this
  exact this
 cases ifs with
 | nil=>
  have hcd:cd= .no:=by
   cases cd with
   | no=>rfl
   | yes e'=>exact absurd hd Bool.false_ne_true
  have key0:∀σ H Q,tF w0 (te c Z (.comp N' js tg it cd e)) σ H Q→tComp0 js (iF w0 (tit c Z it)) (gF w0 tg) (tF w0 (te c noX e)) σ H Q:=by
   intro σ H Q h
   obtain⟨w,σD,M,QD,S,g,a⟩:=key σ H Q h
   refine⟨w,σD,M,QD,S,g,fun J w' own xs M' x' r' jk q p hp=>?_⟩
   obtain⟨W,w1,w2⟩:=a J w' own xs M' x' r' jk q p hp
   refine⟨W,w1,fun i m σc Hc hW=>(w2 i m σc Hc hW).imp id fun⟨z1,z2⟩=>⟨z1,fun x H' hy=>?_⟩⟩
   obtain⟨v1,v2,v3,v4,v5,v6,v7,v8,v9⟩:=z2 x H' hy
   refine⟨v1,v2,v3,v4,v5,v6,v7,v8,fun σ' σD' en q'=>?_⟩
   have:=nocd hcd (v9 σ' σD' en q')
   rw[if_pos rfl] at this
   exact this
  exact⟨PE.imp (pe_comp0 (G.calm hc) ho' hi hg hel hf) key0,fun i x px spos h1 h2 h3=>PS.imp (ps_comp0 (G.calm hc) ho' G.nd h1 h2 hi hg hel h3 hf) fun R σ H h=>key0 σ H _ h⟩
 | cons x0 ifs=>
  have hq:∀cl C fp pins s H,∃x,x0::ifs=[x]∧PT (cxC X N' scope cl C fp pins s H) x (tFT w0 (tcd c noX cd)):=fun cl C fp pins s H=>by
   rcases ihd.2 _ _ _ _ (x0::ifs) (Good.block G hc (scope:=scope) hn cl C fp pins s H) hd with h | ⟨h,_⟩
   ·exact h
   ·cases h
  have e0:ifs=[]:=by
   cases cd with
   | no=>exact absurd hd Bool.false_ne_true
   | yes e'=>
    cases ifs with
    | nil=>rfl
    | cons _ _=>exact absurd hd Bool.false_ne_true
  subst e0
  have hq':∀cl C fp pins s H,PT (cxC X N' scope cl C fp pins s H) x0 (tFT w0 (tcd c noX cd)):=fun cl C fp pins s H=>by
   obtain⟨x,h1,h2⟩:=hq cl C fp pins s H
   cases h1
   exact h2
  exact⟨PE.imp (pe_comp1 (G.calm hc) ho' hi hg hq' hel hf) key,fun i x px spos h1 h2 h3=>PS.imp (ps_comp1 (G.calm hc) ho' G.nd h1 h2 hi hg hq' hel h3 hf) fun R σ H h=>key σ H _ h⟩
end
section
variable{c:Cfg}{k:Ck}{Z:DX}{w0:Vw}{X:Cx}
theorem te_cmp_bl{op:Cm}{a b:E}(σD:DEnv)(M:Store)(QD:DK)(h:te c Z (.cmp op a b) σD M QD):te c Z (.cmp op a b) σD M fun d M'=>(∃b,d= .bl b)∧QD d M':=by
 have e:(fun(d:D) (M':Store)=>QD d M')=QD:=rfl
 unfold te at h ⊢
 have:(fun(x:D) (M1:Store)=>te c Z b σD M1 fun y M2=>cmD M2 op x y fun r=>QD (.bl r) M2)=fun x M1=>te c Z b σD M1 fun y M2=>cmD M2 op x y fun r=>(∃b,D.bl r= .bl b)∧QD (.bl r) M2:=by
  funext x M1
  congr 1
  funext y M2
  congr 1
  funext r
  exact propext ⟨fun h=>⟨⟨r,rfl⟩,h⟩,fun h=>h.2⟩
 rw[this] at h
 exact h
theorem pe_andG{a b:Expr}{rest:List Expr}{pos:Pos}{ta tb:TE}(ha:PE X a ta)(hb:PE X (.BoolOp .And (b::rest) pos) tb):PE X (.BoolOp .And (a::b::rest) pos) (fun σ H Q=>ta σ H fun x H1=>∃z,TruV X.K x H1 z∧if z=true then tb σ H1 Q else Q x H1):=by
 intro pins s σ H Q I h
 refine BoolOp_and (thn (ha pins s σ H _ I h) fun v s1 ⟨x,H1,I1,r1,q1⟩=>?_)
 refine thn (tru_ok pins s1 σ H1 x v (fun z H2=>if z=true then tb σ H2 Q else Q x H2) I1 r1 q1) fun z s2 ⟨H2,I2,q2⟩=>?_
 cases z with
 | true=>exact hb pins s2 σ H2 Q I2 (by rw[if_pos rfl] at q2;exact q2)
 | false=>exact⟨x,H2,I2,r1,by rw[if_neg Bool.false_ne_true] at q2;exact q2⟩
theorem pe_orG{a b:Expr}{rest:List Expr}{pos:Pos}{ta tb:TE}(ha:PE X a ta)(hb:PE X (.BoolOp .Or (b::rest) pos) tb):PE X (.BoolOp .Or (a::b::rest) pos) (fun σ H Q=>ta σ H fun x H1=>∃z,TruV X.K x H1 z∧if z=true then Q x H1 else tb σ H1 Q):=by
 intro pins s σ H Q I h
 refine BoolOp_or (thn (ha pins s σ H _ I h) fun v s1 ⟨x,H1,I1,r1,q1⟩=>?_)
 refine thn (tru_ok pins s1 σ H1 x v (fun z H2=>if z=true then Q x H2 else tb σ H2 Q) I1 r1 q1) fun z s2 ⟨H2,I2,q2⟩=>?_
 cases z with
 | false=>exact hb pins s2 σ H2 Q I2 (by rw[if_neg Bool.false_ne_true] at q2;exact q2)
 | true=>exact⟨x,H2,I2,r1,by rw[if_pos rfl] at q2;exact q2⟩
theorem read_excl{M:Store}{n:Nat}{xs:List D}{ys:List (Key×D)}(h1:readL M n=some xs)(h2:readD M n=some ys):False:=by
 unfold readL at h1
 unfold readD at h2
 cases h:M[n]? with
 | none=>rw[h] at h2;cases h2
 | some c=>rw[h] at h1 h2;cases c<;>simp at h1 h2
theorem truD_det{M:Store}{x:D}{k:Bool}{A:Prop}{P:Bool→Prop}:truD M x (fun b=>if b=k then A else truD M x P)=truD M x (fun b=>if b=k then A else P b):=by
 cases x with
 | str y=>
  apply propext
  show(y.length≤sizeLine∧if ((y.length:Int) !=0)=k then A else(y.length≤sizeLine∧P ((y.length:Int) !=0)))↔(y.length≤sizeLine∧if ((y.length:Int) !=0)=k then A else P ((y.length:Int) !=0))
  split<;>simp (config:={contextual:=true})
 | ref n=>
  apply propext
  have key:∀Q:Bool→Prop,truD M (.ref n) Q↔(∃xs,readL M n=some xs∧Q (!xs.isEmpty))∨(∃xs,readD M n=some xs∧Q (!xs.isEmpty)):=fun Q=>Iff.rfl
  constructor
  ·intro h
   rcases(key _).mp h with⟨xs,h1,h2⟩ | ⟨xs,h1,h2⟩
   ·refine(key _).mpr (.inl ⟨xs,h1,?_⟩)
    split at h2
    ·rename_i e;rw[if_pos e];exact h2
    ·rename_i e
     rw[if_neg e]
     rcases(key _).mp h2 with⟨ys,g1,g2⟩ | ⟨ys,g1,g2⟩
     ·rw[h1] at g1;cases g1;exact g2
     ·exact(read_excl h1 g1).elim
   ·refine(key _).mpr (.inr ⟨xs,h1,?_⟩)
    split at h2
    ·rename_i e;rw[if_pos e];exact h2
    ·rename_i e
     rw[if_neg e]
     rcases(key _).mp h2 with⟨ys,g1,g2⟩ | ⟨ys,g1,g2⟩
     ·exact(read_excl g1 h1).elim
     ·rw[h1] at g1;cases g1;exact g2
  ·intro h
   rcases(key _).mp h with⟨xs,h1,h2⟩ | ⟨xs,h1,h2⟩
   ·refine(key _).mpr (.inl ⟨xs,h1,?_⟩)
    split at h2
    ·rename_i e;rw[if_pos e];exact h2
    ·rename_i e;rw[if_neg e];exact(key _).mpr (.inl ⟨xs,h1,h2⟩)
   ·refine(key _).mpr (.inr ⟨xs,h1,?_⟩)
    split at h2
    ·rename_i e;rw[if_pos e];exact h2
    ·rename_i e;rw[if_neg e];exact(key _).mpr (.inr ⟨xs,h1,h2⟩)
 | non=>rfl
 | bl b=>rfl
 | int i=>rfl
 | tup xs=>rfl
 | _=>rfl
theorem te_bop_tt{e e2:E}{r:Es}{σD:DEnv}{M:Store}{QD:Bool→Store→Prop}(h:ttD (tbop c Z true (.cons e (.cons e2 r))) σD M QD):
  ttD (te c Z e) σD M fun z M1=>if z=true then ttD (tbop c Z true (.cons e2 r)) σD M1 QD else QD false M1:=by
 have hh:(fun(x:D) (M1:Store)=>truD M1 x fun b=>if b=true then ttD (tbop c Z true (.cons e2 r)) σD M1 QD else truD M1 x fun b=>QD b M1)=
   fun x M1=>truD M1 x fun z=>if z=true then ttD (tbop c Z true (.cons e2 r)) σD M1 QD else QD false M1:=by
  funext x M1
  rw[truD_det]
  congr 1
  funext b
  cases b<;>rfl
 have h':te c Z e σD M fun(x:D) (M1:Store)=>truD M1 x fun b=>if b=true then ttD (tbop c Z true (.cons e2 r)) σD M1 QD else truD M1 x fun b=>QD b M1:=h
 rw[hh] at h'
 exact h'
theorem te_bop_ff{e e2:E}{r:Es}{σD:DEnv}{M:Store}{QD:Bool→Store→Prop}(h:ttD (tbop c Z false (.cons e (.cons e2 r))) σD M QD):
  ttD (te c Z e) σD M fun z M1=>if z=true then QD true M1 else ttD (tbop c Z false (.cons e2 r)) σD M1 QD:=by
 have hh:(fun(x:D) (M1:Store)=>truD M1 x fun b=>if b=false then ttD (tbop c Z false (.cons e2 r)) σD M1 QD else truD M1 x fun b=>QD b M1)=
   fun x M1=>truD M1 x fun z=>if z=true then QD true M1 else ttD (tbop c Z false (.cons e2 r)) σD M1 QD:=by
  funext x M1
  rw[truD_det]
  congr 1
  funext b
  cases b<;>rfl
 have h':te c Z e σD M fun(x:D) (M1:Store)=>truD M1 x fun b=>if b=false then ttD (tbop c Z false (.cons e2 r)) σD M1 QD else truD M1 x fun b=>QD b M1:=h
 rw[hh] at h'
 exact h'
end
theorem dct2_shape{k:Ck}{a b c d:E}{ex:Expr}(h:chkE k (.dct2 a b c d) ex=true):∃l r l2 r2 pos,ex= .Dict [some l,some l2] [r,r2] pos∧(chkE k a l&&chkE k b r&&chkE k c l2&&chkE k d r2)=true:=by
 cases ex with
 | Dict ks vs pos=>
  match ks,vs,h with
  | [some l,some l2],[r,r2],h=>exact⟨l,r,l2,r2,pos,rfl,h⟩
 | _=>exact absurd h Bool.false_ne_true
theorem dct_shape{k:Ck}{a b:E}{ex:Expr}(h:chkE k (.dct a b) ex=true):∃l r pos,ex= .Dict [some l] [r] pos∧(chkE k a l&&chkE k b r)=true:=by
 cases ex with
 | Dict ks vs pos=>
  cases ks with
  | nil=>exact absurd h Bool.false_ne_true
  | cons k0 ks=>
  cases k0 with
  | none=>exact absurd h Bool.false_ne_true
  | some l=>
  cases ks with
  | cons _ _=>exact absurd h Bool.false_ne_true
  | nil=>
  cases vs with
  | nil=>exact absurd h Bool.false_ne_true
  | cons r vs=>
  cases vs with
  | cons _ _=>exact absurd h Bool.false_ne_true
  | nil=>exact⟨l,r,pos,rfl,h⟩
 | _=>exact absurd h Bool.false_ne_true
theorem zip_shape{k:Ck}{es:Es}{ex:Expr}(h:chkIt k (.zip es) ex=true):∃l ls p q,ex= .Call (.Name "zip" p) (l::ls) [] q∧(k.glob "zip"&&k.BN.contains "zip"&&chkEs k es (l::ls))=true:=by
 cases ex with
 | Call fn as kws q=>
  cases fn with
  | Name x p=>
   cases as with
   | nil=>exact absurd h Bool.false_ne_true
   | cons l ls=>
   cases kws with
   | cons _ _=>exact absurd h Bool.false_ne_true
   | nil=>
    change (_&&_)=true at h
    simp only[Bool.and_eq_true,beq_iff_eq] at h
    obtain⟨⟨⟨rfl,h1⟩,h2⟩,h3⟩:=h
    refine⟨l,ls,p,q,rfl,?_⟩
    simp only[Bool.and_eq_true]
    exact⟨⟨h1,h2⟩,h3⟩
  | _=>exact absurd h Bool.false_ne_true
 | _=>exact absurd h Bool.false_ne_true
mutual
theorem soundE(c:Cfg):∀e:E,SoundE c e
 | .var i,k,Z,w0,X,ex,G,h=>by
  cases ex with
  | Name x pos=>
   change (_&&_)=true at h
   simp only[Bool.and_eq_true,beq_iff_eq] at h
   exact both G (sound_var G h.1 h.2) fun _=>rfl
  | _=>exact absurd h Bool.false_ne_true
 | .int i,k,Z,w0,X,ex,G,h=>by
  cases ex with
  | Constant v j pos=>
   cases v with
   | int m=>
    change (_==_)=true at h
    simp only[beq_iff_eq] at h
    subst h
    exact both G (PE.imp pe_int fun σ H Q q=>tF_val (fun _ _=>rd_int.mpr rfl) q) fun _=>rfl
   | _=>exact absurd h Bool.false_ne_true
  | _=>exact absurd h Bool.false_ne_true
 | .bl i,k,Z,w0,X,ex,G,h=>by
  cases ex with
  | Constant v j pos=>
   cases v with
   | bool m=>
    change (_==_)=true at h
    simp only[beq_iff_eq] at h
    subst h
    exact both G (PE.imp pe_bl fun σ H Q q=>tF_val (fun _ _=>rd_bl.mpr rfl) q) fun _=>rfl
   | _=>exact absurd h Bool.false_ne_true
  | _=>exact absurd h Bool.false_ne_true
 | .non,k,Z,w0,X,ex,G,h=>by
  cases ex with
  | Constant v j pos=>
   cases v with
   | none=>exact both G (PE.imp pe_non fun σ H Q q=>tF_val (fun _ _=>rd_non.mpr rfl) q) fun _=>rfl
   | _=>exact absurd h Bool.false_ne_true
  | _=>exact absurd h Bool.false_ne_true
 | .str i,k,Z,w0,X,ex,G,h=>by
  cases ex with
  | Constant v j pos=>
   cases v with
   | str m=>
    change (_==_)=true at h
    simp only[beq_iff_eq] at h
    subst h
    exact both G (PE.imp pe_str fun σ H Q q=>tF_val (fun _ _=>rd_str.mpr rfl) q) fun _=>rfl
   | _=>exact absurd h Bool.false_ne_true
  | _=>exact absurd h Bool.false_ne_true
 | .ty t,k,Z,w0,X,ex,G,h=>by
  cases ex with
  | Name x pos=>
   change (_&&_)=true at h
   simp only[Bool.and_eq_true,beq_iff_eq,List.contains_iff_mem] at h
   obtain⟨g1,g2,g3⟩:=G.gl h.1.2
   exact both G (PE.imp (pe_bltn (v:= .ty (tyName t)) g1 (G.blt x h.2) (by rw[h.1.1];exact boot_ty t) rfl g3 g2) fun σ H Q q=>tF_val (fun _ _=>rd_ty.mpr rfl) q) fun _=>rfl
  | _=>exact absurd h Bool.false_ne_true
 | .glb g,k,Z,w0,X,ex,G,h=>by
  cases ex with
  | Name x pos=>
   change (_&&_)=true at h
   simp only[Bool.and_eq_true,beq_iff_eq] at h
   exact both G (sound_glb G h.1 h.2) fun _=>rfl
  | _=>exact absurd h Bool.false_ne_true
 | .bin op a b,k,Z,w0,X,ex,G,h=>by
  cases ex with
  | BinOp l o r pos=>
   change (_&&_)=true at h
   simp only[Bool.and_eq_true,beq_iff_eq] at h
   obtain⟨⟨rfl,h1⟩,h2⟩:=h
   exact both G (PE.imp (pe_op (op_sound (w0:=w0) op) (soundE c a k Z w0 X l G h1).1 (soundE c b k Z w0 X r G h2).1) fun σ H Q q=>bin_sound q) fun _=>rfl
  | _=>exact absurd h Bool.false_ne_true
 | .neg a,k,Z,w0,X,ex,G,h=>by
  cases ex with
  | UnaryOp o l pos=>
   cases o with
   | USub=>
    have h1:chkE k a l=true:=h
    refine both G (PE.imp (pe_un un_neg (soundE c a k Z w0 X l G h1).1) fun σ H Q ⟨w,σD,M,QD,S,g,aq⟩=>?_) fun _=>rfl
    refine tF_of S g fun x w1 dx M1 x1 r1 rx q1=>?_
    split at q1
    ·cases rd_int.mp rx
     exact⟨_,rfl,aq _ w1 _ M1 x1 r1 (rd_int.mpr rfl) q1⟩
    ·exact q1.elim
   | _=>exact absurd h Bool.false_ne_true
  | _=>exact absurd h Bool.false_ne_true
 | .not a,k,Z,w0,X,ex,G,h=>by
  cases ex with
  | UnaryOp o l pos=>
   cases o with
   | Not=>
    have h1:chkE k a l=true:=h
    obtain⟨i1,i2⟩:=soundE c a k Z w0 X l G h1
    refine⟨PE.imp (pe_notT i1) fun σ H Q ⟨w,σD,M,QD,S,g,aq⟩=>?_,fun hn=>PT.imp (pt_not (i2 hn)) fun σ H Q ⟨w,σD,M,QD,S,g,aq⟩=>?_⟩
    ·refine tF_of S g fun x w1 dx M1 x1 r1 rx q1=>?_
     obtain⟨b,t1,t2⟩:=tru_sound (K:=X.K) (by rw[x1.K,S.K,G.eK]) r1 rx q1
     exact⟨b,t1,aq _ w1 _ M1 x1 r1 (rd_bl.mpr rfl) t2⟩
    ·exact⟨w,σD,M,fun b M1=>QD (!b) M1,S,g,fun b w' M' x' r' q'=>aq _ w' M' x' r' q'⟩
   | _=>exact absurd h Bool.false_ne_true
  | _=>exact absurd h Bool.false_ne_true
 | .cmp op a b,k,Z,w0,X,ex,G,h=>by
  cases ex with
  | Compare l os rs pos=>
   match os,rs,h with
   | [o],[r],h=>
    change (_&&_)=true at h
    simp only[Bool.and_eq_true,beq_iff_eq] at h
    obtain⟨⟨⟨rfl,h0⟩,h1⟩,h2⟩:=h
    have hm:behindInMarks (cmOf op) r=false:=by
     cases r with
     | Set es kk p=>cases op<;>first | (simp[isIn,noSet] at h0;done) | (simp[behindInMarks,cmOf])
     | _=>rfl
    have ia:=(soundE c a k Z w0 X l G h1).1
    have ib:=(soundE c b k Z w0 X r G h2).1
    refine⟨PE.imp (pe_cmpR (cm_sound (w0:=w0) G.eK G.units op) ia ib hm) fun σ H Q q=>cmp_sound q,fun _=>pt_bool (PT.imp (pt_cmpR (cm_sound (w0:=w0) G.eK G.units op) ia ib hm) fun σ H Q q=>cmp_sound q) te_cmp_bl⟩
   | [],_,h=>exact absurd h Bool.false_ne_true
   | [_],[],h=>exact absurd h Bool.false_ne_true
   | [_],_::_::_,h=>exact absurd h Bool.false_ne_true
   | _::_::_,_,h=>exact absurd h Bool.false_ne_true
  | _=>exact absurd h Bool.false_ne_true
 | .bop b es,k,Z,w0,X,ex,G,h=>by
  cases ex with
  | BoolOp o ls pos=>
   cases b with
   | true=>
    cases o with
    | And=>
     obtain⟨i1,i2⟩:=(soundEs c es k Z w0 X ls G h).2 true pos
     exact⟨i1,fun hn=>(i2 hn).pt⟩
    | Or=>exact absurd h Bool.false_ne_true
   | false=>
    cases o with
    | Or=>
     obtain⟨i1,i2⟩:=(soundEs c es k Z w0 X ls G h).2 false pos
     exact⟨i1,fun hn=>(i2 hn).pt⟩
    | And=>exact absurd h Bool.false_ne_true
  | _=>cases b<;>exact absurd h Bool.false_ne_true
 | .ife t a b,k,Z,w0,X,ex,G,h=>by
  cases ex with
  | IfExp x l r pos=>
   change (_&&_)=true at h
   simp only[Bool.and_eq_true] at h
   refine⟨PE.imp (pe_ifExp ((soundE c t k Z w0 X x G h.1.1.1).2 h.2) (soundE c a k Z w0 X l G h.1.1.2).1 (soundE c b k Z w0 X r G h.1.2).1) fun σ H Q ⟨w,σD,M,QD,S,g,aq⟩=>?_,fun hn=>by simp[noIf] at hn⟩
   refine⟨w,σD,M,fun r M1=>if r=true then te c Z a σD M1 QD else te c Z b σD M1 QD,S,g,fun r w1 M1 x1 r1 q1=>?_⟩
   cases r with
   | true=>rw[if_pos rfl] at q1 ⊢;exact tF_of (S.next x1 r1) q1 (aq.ext x1)
   | false=>rw[if_neg Bool.false_ne_true] at q1 ⊢;exact tF_of (S.next x1 r1) q1 (aq.ext x1)
  | _=>exact absurd h Bool.false_ne_true
 | .lst es,k,Z,w0,X,ex,G,h=>by
  cases ex with
  | List ls pos=>
   refine both G (PE.imp (pe_lst (soundEs c es k Z w0 X ls G h).1) fun σ H Q ⟨w,σD,M,QD,S,g,aq⟩=>?_) fun _=>rfl
   refine⟨w,σD,M,_,S,g,fun vs w1 ds M1 x1 r1 rd1 q1=>⟨by rw[rd1.length];exact q1.1,fun p hp=>?_⟩⟩
   obtain⟨y1,y2,y3⟩:=new_list r1 hp rd1
   exact aq _ _ _ _ (x1.trans y1) y2 y3 q1.2
  | _=>exact absurd h Bool.false_ne_true
 | .tup es,k,Z,w0,X,ex,G,h=>by
  cases ex with
  | Tuple ls kk pos=>
   refine both G (PE.imp (pe_tup (soundEs c es k Z w0 X ls G h).1) fun σ H Q ⟨w,σD,M,QD,S,g,aq⟩=>?_) fun _=>rfl
   refine⟨w,σD,M,_,S,g,fun vs w1 ds M1 x1 r1 rd1 q1=>⟨by rw[rd1.length];exact q1.1,fun p hp=>?_⟩⟩
   obtain⟨y1,y2,y3⟩:=new_tup r1 hp rd1
   exact aq _ _ _ _ (x1.trans y1) y2 y3 q1.2
  | _=>exact absurd h Bool.false_ne_true
 | .dict0,k,Z,w0,X,ex,G,h=>by
  cases ex with
  | Dict ks vs pos=>
   match ks,vs,h with
   | [],[],h=>
    refine both G (PE.imp pe_dnewK fun σ H Q ⟨w,σD,M,QD,S,g,aq⟩=>?_) fun _=>rfl
    intro p hp
    rw[←S.heap] at hp
    obtain⟨y1,y2,y3⟩:=new_dict (xs:=[]) (vs:=[]) S.rs hp (by unfold RKV;rfl)
    have:=aq _ _ _ _ y1 y2 y3 g
    rw[←S.heap]
    exact this
   | [],_::_,h=>exact absurd h Bool.false_ne_true
   | _::_,_,h=>exact absurd h Bool.false_ne_true
  | _=>exact absurd h Bool.false_ne_true
 | .dct2 a b d e,k,Z,w0,X,ex,G,h=>by
  obtain⟨l,r,l2,r2,pos,rfl,h2⟩:=dct2_shape h
  simp only[Bool.and_eq_true] at h2
  exact both G (sound_dct2 G (soundE c a k Z w0 X l G h2.1.1.1).1 (soundE c b k Z w0 X r G h2.1.1.2).1 (soundE c d k Z w0 X l2 G h2.1.2).1 (soundE c e k Z w0 X r2 G h2.2).1) fun _=>rfl
 | .dct a b,k,Z,w0,X,ex,G,h=>by
  obtain⟨l,r,pos,rfl,h2⟩:=dct_shape h
  rw[Bool.and_eq_true] at h2
  exact both G (sound_dct G (soundE c a k Z w0 X l G h2.1).1 (soundE c b k Z w0 X r G h2.2).1) fun _=>rfl
 | .ix a b,k,Z,w0,X,ex,G,h=>by
  cases ex with
  | Subscript l r pos=>
   change (_&&_)=true at h
   simp only[Bool.and_eq_true] at h
   exact both G (sound_ix G h.1.1 (soundE c a k Z w0 X l G h.1.2).1 (soundE c b k Z w0 X r G h.2).1) fun _=>rfl
  | _=>exact absurd h Bool.false_ne_true
 | .sl a lo hi,k,Z,w0,X,ex,G,h=>by
  cases ex with
  | Subscript l r pos=>
   cases r with
   | Slice x y z p2=>
    cases z with
    | none=>
     change (_&&_)=true at h
     simp only[Bool.and_eq_true] at h
     exact both G (sound_sl G (soundE c a k Z w0 X l G h.1.1).1 ((soundO c lo).1 k Z w0 X x G h.1.2) ((soundO c hi).1 k Z w0 X y G h.2)) fun _=>rfl
    | some _=>exact absurd h Bool.false_ne_true
   | _=>exact absurd h Bool.false_ne_true
  | _=>exact absurd h Bool.false_ne_true
 | .call f es,k,Z,w0,X,ex,G,h=>by
  cases ex with
  | Call fn ls kws pos=>
   cases fn with
   | Name x np=>
    cases kws with
    | nil=>
     change (_&&_)=true at h
     simp only[Bool.and_eq_true,beq_iff_eq] at h
     exact both G (sound_call G h.1.1.1 h.1.1.2 h.1.2 h.2 (soundEs c es k Z w0 X ls G h.2).1) fun _=>rfl
    | cons _ _=>exact absurd h Bool.false_ne_true
   | _=>exact absurd h Bool.false_ne_true
  | _=>exact absurd h Bool.false_ne_true
 | .bf b es,k,Z,w0,X,ex,G,h=>by
  cases ex with
  | Call fn ls kws pos=>
   cases fn with
   | Name x np=>
    cases kws with
    | nil=>
     cases ls with
     | nil=>exact absurd h Bool.false_ne_true
     | cons l ls=>
      change (_&&_)=true at h
      simp only[Bool.and_eq_true,beq_iff_eq,Bool.or_eq_true,List.contains_iff_mem] at h
      exact both G (sound_bf G h.1.1.1.1 h.1.1.1.2 h.1.1.2 h.1.2 h.2 (soundEs c es k Z w0 X (l::ls) G h.2).1) fun _=>rfl
    | cons _ _=>cases ls<;>exact absurd h Bool.false_ne_true
   | _=>cases ls<;>cases kws<;>exact absurd h Bool.false_ne_true
  | _=>exact absurd h Bool.false_ne_true
 | .mt m o es,k,Z,w0,X,ex,G,h=>by
  cases ex with
  | Call fn ls kws pos=>
   cases fn with
   | Attribute l nm ap=>
    cases kws with
    | nil=>
     change (_&&_)=true at h
     simp only[Bool.and_eq_true,beq_iff_eq,decide_eq_true_eq] at h
     obtain⟨⟨⟨⟨⟨rfl,h1⟩,h2⟩,h3⟩,h4⟩,h5⟩:=h
     exact both G (sound_mt G h1 (by rw[h2];simp) h3 h5 (soundE c o k Z w0 X l G h4).1 (soundEs c es k Z w0 X ls G h5).1) fun _=>rfl
    | cons _ _=>exact absurd h Bool.false_ne_true
   | _=>exact absurd h Bool.false_ne_true
  | _=>exact absurd h Bool.false_ne_true
 | .comp N' js tg it cd e,k,Z,w0,X,ex,G,h=>by
  cases ex with
  | ListComp el gens scope pos=>
   match gens,h with
   | [⟨t,iter,ifs,as⟩],h=>
    rcases as with(_ | n) | n
    ·change (_&&_)=true at h
     simp only[Bool.and_eq_true,decide_eq_true_eq] at h
     obtain⟨⟨⟨⟨⟨⟨⟨⟨h1,h2⟩,h3⟩,h4⟩,h5⟩,h6⟩,h7⟩,h8⟩,h9⟩:=h
     exact both G (sound_comp G h1 h2 h3 h5 (soundI c it k Z w0 X t iter G h4 h9) h6 h7 h8 (soundE c e) (soundO c cd)).1 fun _=>rfl
    ·exact absurd h Bool.false_ne_true
    ·exact absurd h Bool.false_ne_true
   | [],h=>exact absurd h Bool.false_ne_true
   | ⟨_,_,_,as⟩::_::_,h=>rcases as with(_ | _) | _<;>exact absurd h Bool.false_ne_true
  | _=>exact absurd h Bool.false_ne_true
theorem soundEs(c:Cfg):∀es:Es,SoundEs c es
 | .nil,k,Z,w0,X,ls,G,h=>by
  cases ls with
  | nil=>
   refine⟨PA.imp pa_nil fun σ H Q ⟨w,σD,M,QD,S,g,aq⟩=>?_,fun b pos=>⟨PE.imp (t:=fun _ _ _=>False) (fun _ _ _ _ _ _ h=>h.elim) fun σ H Q ⟨w,σD,M,QD,S,g,aq⟩=>g,fun _ whole pins s σ H Q I ⟨w,σD,M,QD,S,g,aq⟩=>g.elim⟩⟩
   have:=aq [] w [] M (Ext.refl w) S.rs (RDs.nil w) g
   rw[S.heap] at this
   exact this
  | cons l ls=>exact absurd h Bool.false_ne_true
 | .cons e r,k,Z,w0,X,ls,G,h=>by
  cases ls with
  | nil=>exact absurd h Bool.false_ne_true
  | cons l ls=>
   change (_&&_)=true at h
   simp only[Bool.and_eq_true] at h
   obtain⟨ie,it⟩:=soundE c e k Z w0 X l G h.1.1
   obtain⟨ir,ib⟩:=soundEs c r k Z w0 X ls G h.2
   refine⟨PA.imp (pa_cons ie ir (star_cons h.1.2)) fun σ H Q ⟨w,σD,M,QD,S,g,aq⟩=>?_,fun b pos=>?_⟩
   ·refine tF_of S g fun v w1 d M1 x1 r1 rd1 q1=>?_
    refine⟨w1,σD,M1,_,S.next x1 r1,q1,fun vs w2 ds M2 x2 r2 rd2 q2=>?_⟩
    exact aq _ w2 _ M2 (x1.trans x2) r2 (RDs.cons (rd1.ext x2) rd2) q2
   ·cases r with
    | nil=>
     cases ls with
     | cons _ _=>exact absurd h.2 Bool.false_ne_true
     | nil=>
      refine⟨PE.imp (pe_one ie) fun σ H Q q=>q,fun hn=>?_⟩
      have hn':noIf e=true:=by simpa[noIfs] using hn
      cases b with
      | true=>exact fun whole pins s σ H Q I q=>pw_and1 (it hn') whole pins s σ H Q I q
      | false=>exact fun whole pins s σ H Q I q=>pw_or1 (it hn') whole pins s σ H Q I q
    | cons e2 r2=>
     cases ls with
     | nil=>exact absurd h.2 Bool.false_ne_true
     | cons l2 ls=>
      obtain⟨jb,jw⟩:=ib b pos
      constructor
      ·cases b with
       | true=>
        refine PE.imp (pe_andG ie jb) fun σ H Q ⟨w,σD,M,QD,S,g,aq⟩=>?_
        refine tF_of S g fun v w1 d M1 x1 r1 rd1 q1=>?_
        obtain⟨z,t1,t2⟩:=tru_sound (K:=X.K) (by rw[x1.K,S.K,G.eK]) r1 rd1 q1
        refine⟨z,t1,?_⟩
        cases z with
        | true=>rw[if_pos rfl] at t2 ⊢;exact tF_of (S.next x1 r1) t2 (aq.ext x1)
        | false=>rw[if_neg Bool.false_ne_true] at t2 ⊢;exact aq _ w1 _ M1 x1 r1 rd1 t2
       | false=>
        refine PE.imp (pe_orG ie jb) fun σ H Q ⟨w,σD,M,QD,S,g,aq⟩=>?_
        refine tF_of S g fun v w1 d M1 x1 r1 rd1 q1=>?_
        obtain⟨z,t1,t2⟩:=tru_sound (K:=X.K) (by rw[x1.K,S.K,G.eK]) r1 rd1 q1
        refine⟨z,t1,?_⟩
        cases z with
        | false=>rw[if_pos rfl] at t2;rw[if_neg Bool.false_ne_true];exact tF_of (S.next x1 r1) t2 (aq.ext x1)
        | true=>rw[if_neg (by decide)] at t2;rw[if_pos rfl];exact aq _ w1 _ M1 x1 r1 rd1 t2
      ·intro hn
       have hn':noIf e=true∧noIfs (.cons e2 r2)=true:=by
        have:(noIf e&&noIfs (.cons e2 r2))=true:=hn
        simpa using this
       have jw':=jw hn'.2
       cases b with
       | true=>
        intro whole pins s σ H Q I ⟨w,σD,M,QD,S,g,aq⟩
        refine pw_and (it hn'.1) jw' whole pins s σ H Q I ?_
        refine⟨w,σD,M,fun z M1=>if z=true then ttD (tbop c Z true (.cons e2 r2)) σD M1 QD else QD false M1,S,?_,fun z w1 M1 x1 r1 q1=>?_⟩
        ·exact te_bop_tt g
        ·cases z with
         | true=>rw[if_pos rfl] at q1 ⊢;exact⟨w1,σD,M1,QD,S.next x1 r1,q1,fun z w2 M2 x2 r2 q2=>aq z w2 M2 (x1.trans x2) r2 q2⟩
         | false=>rw[if_neg Bool.false_ne_true] at q1 ⊢;exact aq _ w1 M1 x1 r1 q1
       | false=>
        intro whole pins s σ H Q I ⟨w,σD,M,QD,S,g,aq⟩
        refine pw_or (it hn'.1) jw' whole pins s σ H Q I ?_
        refine⟨w,σD,M,fun z M1=>if z=true then QD true M1 else ttD (tbop c Z false (.cons e2 r2)) σD M1 QD,S,?_,fun z w1 M1 x1 r1 q1=>?_⟩
        ·exact te_bop_ff g
        ·cases z with
         | true=>rw[if_pos rfl] at q1 ⊢;exact aq _ w1 M1 x1 r1 q1
         | false=>rw[if_neg Bool.false_ne_true] at q1 ⊢;exact⟨w1,σD,M1,QD,S.next x1 r1,q1,fun z w2 M2 x2 r2 q2=>aq z w2 M2 (x1.trans x2) r2 q2⟩
theorem soundO(c:Cfg):∀eo:Eo,SoundO c eo
 | .no=>⟨fun k Z w0 X lo G h=>by
   cases lo with
   | none=>
    intro pins s σ H Q I ⟨w,σD,M,QD,S,g,aq⟩
    refine po_none pins s σ H Q I ?_
    have:=aq none w M (Ext.refl w) S.rs g
    rw[S.heap] at this
    exact this
   | some _=>exact absurd h Bool.false_ne_true,fun k Z w0 X ls G h=>by
   cases ls with
   | nil=>exact .inr ⟨rfl,rfl⟩
   | cons _ _=>exact absurd h Bool.false_ne_true⟩
 | .yes e=>⟨fun k Z w0 X lo G h=>by
   cases lo with
   | none=>exact absurd h Bool.false_ne_true
   | some x=>
    intro pins s σ H Q I ⟨w,σD,M,QD,S,g,aq⟩
    refine po_some (soundE c e k Z w0 X x G h).1 pins s σ H Q I ?_
    refine tF_of S g fun v w1 d M1 x1 r1 rd1 q1=>?_
    split at q1
    ·cases rd_int.mp rd1
     exact⟨_,rfl,aq _ w1 M1 x1 r1 q1⟩
    ·exact q1.elim,fun k Z w0 X ls G h=>by
   match ls,h with
   | [x],h=>
    change (_&&_)=true at h
    simp only[Bool.and_eq_true] at h
    exact .inl ⟨x,rfl,(soundE c e k Z w0 X x G h.1).2 h.2⟩
   | [],h=>exact absurd h Bool.false_ne_true
   | _::_::_,h=>exact absurd h Bool.false_ne_true⟩
theorem soundI(c:Cfg):∀it:It,SoundI c it
 | .seq e,k,Z,w0,X,tg,ex,G,h,_=>by
  refine PI.imp (pi_seq (soundE c e k Z w0 X ex G h).1) fun σ H R ⟨w,σD,M,QD,S,g,aq⟩=>?_
  refine tF_of S g fun v w1 d M1 x1 r1 rd1 q1=>?_
  have hK:X.K=w1.K:=by rw[x1.K,S.K,G.eK]
  unfold itD at q1
  split at q1
  ·obtain⟨hn,rfl⟩:=rd_ref.mp rd1
   obtain⟨xs,z1,z2⟩:=q1
   obtain⟨_,vs,y1,y2,_⟩:=r1.listL z1
   rw[←hK] at y1
   exact .inl ⟨_,rfl,⟨vs,y1⟩,aq _ w1 _ _ M1 x1 r1 (jok_list hK hn) z2⟩
  ·obtain⟨a,vs,rfl,y1,y2⟩:=rd_tup.mp rd1
   exact .inr ⟨a,rfl,⟨vs,.of y1⟩,aq _ w1 _ _ M1 x1 r1 (jok_tup hK (.of y1) y2) q1⟩
  ·obtain⟨a,vs,rfl,y1,y2⟩:=rd_gtup.mp rd1
   exact .inr ⟨a,rfl,⟨vs,by rw[hK];exact y1⟩,aq _ w1 _ _ M1 x1 r1 (jok_tup hK y1 y2) q1⟩
  ·exact q1.elim
 | .rng1 a,k,Z,w0,X,tg,ex,G,h,_=>by
  cases ex with
  | Call fn ls kws pos=>
   cases fn with
   | Name x np=>
    match ls,kws,h with
    | [l],[],h=>
     change (_&&_)=true at h
     simp only[Bool.and_eq_true,beq_iff_eq,List.contains_iff_mem] at h
     obtain⟨⟨⟨⟨rfl,h1⟩,h2⟩,h3⟩,h4⟩:=h
     obtain⟨g1,g2,g3⟩:=G.gl h1
     refine PI.imp (pi_range1 g1 (G.blt _ h2) (pa_cons (soundE c a k Z w0 X l G h4).1 pa_nil (star_cons h3)) (star_cons h3)) fun σ H R ⟨w,σD,M,QD,S,g,aq⟩=>?_
     refine tF_of S g fun v w1 d M1 x1 r1 rd1 q1=>?_
     split at q1
     ·cases rd_int.mp rd1
      exact⟨_,rfl,q1.1,q1.2.1,aq _ w1 _ _ M1 x1 r1 jok_rng q1.2.2⟩
     ·exact q1.elim
    | [],_,h=>exact absurd h Bool.false_ne_true
    | [_],_::_,h=>exact absurd h Bool.false_ne_true
    | _::_::_,_,h=>exact absurd h Bool.false_ne_true
   | _=>exact absurd h Bool.false_ne_true
  | _=>exact absurd h Bool.false_ne_true
 | .rng2 a b,k,Z,w0,X,tg,ex,G,h,_=>by
  cases ex with
  | Call fn ls kws pos=>
   cases fn with
   | Name x np=>
    match ls,kws,h with
    | [l,r],[],h=>
     change (_&&_)=true at h
     simp only[Bool.and_eq_true,beq_iff_eq,List.contains_iff_mem] at h
     obtain⟨⟨⟨⟨⟨⟨rfl,h1⟩,h2⟩,h3⟩,h5⟩,h4⟩,h6⟩:=h
     obtain⟨g1,g2,g3⟩:=G.gl h1
     refine PI.imp (pi_range2 g1 (G.blt _ h2) (pa_cons (soundE c a k Z w0 X l G h4).1 (pa_cons (soundE c b k Z w0 X r G h6).1 pa_nil (star_cons h5)) (star_cons h3)) (by rw[star_cons h3,star_cons h5];rfl) (star_cons h5)) fun σ H R ⟨w,σD,M,QD,S,g,aq⟩=>?_
     refine tF_of S g fun v w1 d M1 x1 r1 rd1 q1=>?_
     refine tF_of (S.next x1 r1) q1 fun v2 w2 d2 M2 x2 r2 rd2 q2=>?_
     split at q2
     ·cases rd_int.mp rd1
      cases rd_int.mp rd2
      exact⟨_,_,rfl,q2.1,aq _ w2 _ _ M2 (x1.trans x2) r2 jok_rng q2.2⟩
     ·exact q2.elim
    | [],_,h=>exact absurd h Bool.false_ne_true
    | [_],_,h=>exact absurd h Bool.false_ne_true
    | [_,_],_::_,h=>exact absurd h Bool.false_ne_true
    | _::_::_::_,_,h=>exact absurd h Bool.false_ne_true
   | _=>exact absurd h Bool.false_ne_true
  | _=>exact absurd h Bool.false_ne_true
 | .zip es,k,Z,w0,X,tg,ex,G,h,ht=>by
  cases tg with
  | Tuple elts ctx tp=>
   obtain⟨l,ls,p,q,rfl,h2⟩:=zip_shape h
   simp only[Bool.and_eq_true,List.contains_iff_mem] at h2
   obtain⟨⟨h3,h4⟩,h5⟩:=h2
   obtain⟨g1,g2,g3⟩:=G.gl h3
   obtain⟨s1,s2⟩:=stars h5
   refine PI.imp (pi_zip g1 (G.blt _ h4) (soundEs c es k Z w0 X (l::ls) G h5).1 s1 s2) fun σ H R ⟨w,σD,M,QD,S,g,aq⟩=>?_
   refine⟨w,σD,M,_,S,g,fun vs w1 ds M1 x1 r1 rd1 q1=>?_⟩
   obtain⟨da,db,rfl,q2⟩:=at2_inv q1
   obtain⟨n,rfl,q3⟩:=onRef_inv q2
   obtain⟨m,rfl,ys,zs,z1,z2,z3⟩:=onRef_inv q3
   obtain⟨v1,v2,rfl,a1,a2⟩:=rds2 rd1
   obtain⟨hn,rfl⟩:=rd_ref.mp a1
   obtain⟨hm,rfl⟩:=rd_ref.mp a2
   have hK:X.K=w1.K:=by rw[x1.K,S.K,G.eK]
   obtain⟨_,us,y1,_,_⟩:=r1.listL z1
   obtain⟨_,vs,y2,_,_⟩:=r1.listL z2
   rw[←hK] at y1 y2
   exact⟨_,_,rfl,⟨us,y1⟩,⟨vs,y2⟩,aq _ w1 _ _ M1 x1 r1 (jok_zip hK hn hm) z3⟩
  | _=>exact absurd ht Bool.false_ne_true
 | .enm a,k,Z,w0,X,tg,ex,G,h,ht=>by
  cases tg with
  | Tuple elts ctx tp=>
   cases ex with
   | Call fn ls kws pos=>
    cases fn with
    | Name x np=>
     match ls,kws,h with
     | [l],[],h=>
      change (_&&_)=true at h
      simp only[Bool.and_eq_true,beq_iff_eq,List.contains_iff_mem] at h
      obtain⟨⟨⟨⟨rfl,h1⟩,h2⟩,h3⟩,h4⟩:=h
      obtain⟨g1,g2,g3⟩:=G.gl h1
      refine PI.imp (pi_enum g1 (G.blt _ h2) (pa_cons (soundE c a k Z w0 X l G h4).1 pa_nil (star_cons h3)) (star_cons h3)) fun σ H R ⟨w,σD,M,QD,S,g,aq⟩=>?_
      refine tF_of S g fun v w1 d M1 x1 r1 rd1 q1=>?_
      have hK:X.K=w1.K:=by rw[x1.K,S.K,G.eK]
      split at q1
      ·obtain⟨hn,rfl⟩:=rd_ref.mp rd1
       obtain⟨xs,z1,z2⟩:=q1
       obtain⟨_,vs,y1,y2,_⟩:=r1.listL z1
       rw[←hK] at y1
       exact⟨_,rfl,⟨vs,y1⟩,aq _ w1 _ _ M1 x1 r1 (jok_enum hK hn) z2⟩
      ·exact q1.elim
     | [],_,h=>exact absurd h Bool.false_ne_true
     | [_],_::_,h=>exact absurd h Bool.false_ne_true
     | _::_::_,_,h=>exact absurd h Bool.false_ne_true
    | _=>exact absurd h Bool.false_ne_true
   | _=>exact absurd h Bool.false_ne_true
  | _=>exact absurd ht Bool.false_ne_true
end
def noComp:Expr→Bool
 | .ListComp .. | .SetComp .. | .DictComp ..=>false
 | _=>true
def noTuple:Expr→Bool
 | .Tuple ..=>false
 | _=>true
def isName:Expr→Bool
 | .Name ..=>true
 | _=>false
def swapB(k:Ck)(t x:Expr):Bool:=match t,x with
 | .Name n pos,.ListComp _ _ scope p=>k.sc.kind== .function&&k.loc n&&pos.line==p.line&&!(scope.names.any fun(m,j)=>m==n&&(j== .local || j== .cell))
 | _,_=>false
def cellB(k:Ck)(t x:Expr):Bool:=match t,x with
 | .Name n _,.ListComp ..=>k.sc.names.lookup n==some .cell
 | _,_=>false
def chkB(k:Ck)(h:Tk)(f:Nat)(es:Es):Stmt→Bool
 | .Expr (.Call (.Name x p) ls [] q) _=>match h with
  | .drop=>chkE k (.call f es) (.Call (.Name x p) ls [] q)
  | _=>false
 | .Return (some (.Call (.Name x p) ls [] q)) _=>match h with
  | .ret=>chkE k (.call f es) (.Call (.Name x p) ls [] q)
  | _=>false
 | .Assign [.Name n _] (.Call (.Name x p) ls [] q) _=>match h with
  | .set i=>k.N[i]?==some n&&k.loc n&&chkE k (.call f es) (.Call (.Name x p) ls [] q)
  | _=>false
 | _=>false
mutual
def chkS(k:Ck):S→Stmt→Bool
 | .cont,.Continue _=>true
 | .ret e,.Return (some x) _=>chkE k e x
 | .expr e,.Expr x _=>noComp x&&chkE k e x
 | .set tg e,.Assign [t] x _=>chkTgt k tg t&&chkE k e x&&((noComp x&&(isName t || noTuple x)) || (swapB k t x&&decide (tg.length=1)) || cellB k t x)
 | .put o i v,.Assign [.Subscript l r _] x _=>noSlice r&&noComp x&&chkE k v x&&chkE k o l&&chkE k i r
 | .ite t a b,.If x ls rs _=>chkE k t x&&noIf t&&chkSs k a ls&&chkSs k b rs
 | .for_ tg it b,.For t x ls [] _=>k.calm&&k.loops&&noSet x&&chkTgt k tg t&&chkIt k it x&&chkSs k b ls&&itTg it t
 | .forK tg e b,.For t x ls [] _=>k.calm&&k.loops&&noSet x&&chkTgt k tg t&&chkE k e x&&chkSs k b ls
 | .while_ t b,.While x ls [] _=>k.loops&&chkE k t x&&noIf t&&chkSs k b ls
 | .raise g es,.Raise (some (.Call (.Name x _) ls [] _)) none _=>k.calm&&k.raises.contains g&&k.GN[g]?==some x&&k.glob x&&decide (ls.length≤1)&&chkEs k es ls
 | .tryN h f es g s,.Try [bs] [.ExceptHandler (some (.Name x _)) none (s0::ss) _] [] [] _=>k.calm&&k.tries&&k.GN[g]?==some x&&k.glob x&&chkB {k with tries:=false,raises:=[]} h f es bs&&
   chkSs {k with calm:=false,loops:=true,tries:=false,raises:=[]} s (s0::ss)
 | _,_=>false
def chkSs(k:Ck):Ss→List Stmt→Bool
 | .nil,[]=>true
 | .cons s r,x::xs=>chkS k s x&&chkSs k r xs
 | _,_=>false
end
section
variable{c:Cfg}{k:Ck}{Z:DX}{w0:Vw}{X:Cx}
theorem swap_no{x:Expr}{t:Option Expr}{line:Nat}{env:Env}(h:noComp x=true):swapsWith x t line env=pure false:=by
 cases x<;>first | rfl | cases h
theorem tFS_of{f:DS}{σ:L2.St}{w:Vw}{σD:DEnv}{M:Store}{H:Hp}{R:Ends}{RR:DEnds}(S:StOk w0 w σD M σ H)(h:f RR σD M)
  (h1:∀σ' w' σD' M',Ext w w'→RS w' M'→REnv w' σD' σ'→RR.nx σD' M'→R.nx σ' w'.H) (h2:Aft w RR.rt R.rt)
  (h3:∀σ' w' σD' M',Ext w w'→RS w' M'→REnv w' σD' σ'→RR.bk σD' M'→R.bk σ' w'.H)
  (h4:∀σ' w' σD' M',Ext w w'→RS w' M'→REnv w' σD' σ'→RR.ct σD' M'→R.ct σ' w'.H):tFS w0 f R σ H:=⟨w,σD,M,RR,S,h,h1,h2,h3,h4⟩
def thawE(X:Cx)(R:Ends):Ends:={nx:=fun σ H=>∃a o kvs,H a=some (.frz o (.dK kvs))∧(∀o u,X.H₀ a≠some (.frz o u))∧R.nx σ (upd H a (.dK kvs)),rt:=fun v H=>∃a o kvs,H a=some (.frz o (.dK kvs))∧(∀o u,X.H₀ a≠some (.frz o u))∧R.rt v (upd H a (.dK kvs))}
theorem ps_thaw{st:Stmt}{t:TS}(h:PS X st t):PS X st (fun R σ H=>t (thawE X R) σ H):=by
 intro pins s σ H D I q
 refine thn (h pins s σ H (thawE X D) I q) fun f s' hp=>?_
 cases f with
 | next=>
  obtain⟨σ',H',I',a,o,kvs,e,nf,q⟩:=hp
  exact⟨σ',_,d_thaw I' e nf,q⟩
 | brk=>obtain⟨σ',H',I',q⟩:=hp;exact q.elim
 | cont=>obtain⟨σ',H',I',q⟩:=hp;exact q.elim
 | ret u=>
  obtain⟨v,σ',H',I',r,a,o,kvs,e,nf,q⟩:=hp
  exact⟨v,σ',_,d_thaw I' e nf,r,q⟩
theorem REnv.ext0{w w':Vw}{σD:DEnv}{σ:L2.St}(h:REnv w σD σ)(x:Ext0 w w'):REnv w' σD σ:=
 ⟨h.1,fun i d e=>let ⟨v,q,r⟩:=h.2 i d e;⟨v,q,r.ext0 x⟩⟩
theorem thaw_view{w1 w':Vw}{M':Store}{n:Nat}{o:Obj}{vs:List (Key×V)}{kvs:List (Key×D)}(hn:n<w1.n)(y1:w1.H (w1.μ n)=some (.dK vs))(x:Ext (w1.alloc (w1.μ n) (.frz o (.dK vs))) w')(r:RS w' M')(t:M'[n]?=some (.fdc kvs)):
  w'.H (w1.μ n)=some (.frz o (.dK vs))∧Ext w1 (w'.alloc (w1.μ n) (.dK vs))∧Ext0 w' (w'.alloc (w1.μ n) (.dK vs))∧RS (w'.alloc (w1.μ n) (.dK vs)) (M'.set n (.dct kvs)):=by
 have q:=x.imm (w1.μ n) _ upd_same rfl
 have eμ:w'.μ n=w1.μ n:=x.μ n hn
 obtain⟨o',us,q1,q2⟩:=r.cell n _ t
 rw[eμ,q] at q1
 cases q1
 refine⟨q,ext_thaw y1 rfl x,ext0_thaw q,?_⟩
 have:=r.thaw t (by rw[eμ];exact q) q2
 rw[eμ] at this
 exact this
theorem for_run{w1:Vw}{J:L2.It}{own:Own}{xs:List D}{tg:List Nat}{body:DS}{M1:Store}{H1:Hp}{σD:DEnv}{σ:L2.St}{RR:DEnds}{R:Ends}(S:StOk w0 w1 σD M1 σ H1)(jk:JOk w1 J own xs)
  (h:forD own xs tg body xs RR σD M1)
  (h1:∀σ' w' σD' M',Ext w1 w'→RS w' M'→REnv w' σD' σ'→RR.nx σD' M'→R.nx σ' w'.H) (h2:Aft w1 RR.rt R.rt):
  ∃W:Nat→Nat→L2.St→Hp→Prop,(∃m,W 0 m σ H1)∧∀i m σ H,W i m σ H→
   (J.stop i H∧R.nx σ H)∨(J.go i H∧∃N:L2.St→Hp→Prop,(∀σ' H',N σ' H'→∃m',m'<m∧W (i+1) m' σ' H')∧∀x H',J.yld i H x H'→gF w0 tg x σ H' fun σ2 H2=>tFS w0 body {R with nx:=N,ct:=N,bk:=R.nx} σ2 H2):=by
 refine⟨fun i m σ H=>∃w σE M,StOk w0 w σE M σ H∧Ext w1 w∧i≤xs.length∧m=xs.length - i∧forD own xs tg body (xs.drop i) RR σE M,⟨xs.length,w1,σD,M1,S,Ext.refl _,Nat.zero_le _,rfl,h⟩,?_⟩
 rintro i m σc Hc ⟨w,σE,M,S1,x1,hi,rfl,hc⟩
 have stp:∀st:still own xs M,_:=fun st=>jk w M x1 S1.rs st i
 rw[S1.heap] at stp
 by_cases hil:i<xs.length
 ·rw[List.drop_eq_getElem_cons hil] at hc
  obtain⟨st,hc⟩:=hc
  obtain⟨j1,j2⟩:=(stp st).1 xs[i] (List.getElem?_eq_getElem hil)
  refine .inr ⟨j1,fun σ' H'=>∃w σE M,StOk w0 w σE M σ' H'∧Ext w1 w∧i+1≤xs.length∧forD own xs tg body (xs.drop (i+1)) RR σE M,?_,fun x H' hy=>?_⟩
  ·rintro σ' H' ⟨w2,σ2,M2,S2,x2,l2,f2⟩
   exact⟨xs.length - (i+1),by omega,w2,σ2,M2,S2,x2,l2,rfl,f2⟩
  ·obtain⟨w3,rfl,x3,R3,rd3⟩:=j2 x H' hy
   refine⟨w3,σE,M,xs[i],_,⟨rfl,S1.ext.trans x3,R3,S1.env.ext x3⟩,rd3,hc,fun σ2 σE2 env2 q2=>?_⟩
   have nxt:∀σ' w' σD' M',Ext w3 w'→RS w' M'→REnv w' σD' σ'→forD own xs tg body (xs.drop (i+1)) RR σD' M'→
     ∃w σE M,StOk w0 w σE M σ' w'.H∧Ext w1 w∧i+1≤xs.length∧forD own xs tg body (xs.drop (i+1)) RR σE M:=
    fun σ' w' σD' M' x' r' e' q'=>⟨w',σD',M',⟨rfl,(S1.ext.trans x3).trans x',r',e'⟩,(x1.trans x3).trans x',hil,q'⟩
   exact tFS_of ⟨rfl,S1.ext.trans x3,R3,env2⟩ q2 nxt (fun v w' d M' x' r' rd' q'=>h2 v w' d M' ((x1.trans x3).trans x') r' rd' q')
    (fun σ' w' σD' M' x' r' e' q'=>h1 σ' w' σD' M' ((x1.trans x3).trans x') r' e' q') nxt
 ·rw[List.drop_eq_nil_of_le (by omega)] at hc
  obtain⟨st,hq⟩:=hc
  refine .inl ⟨(stp st).2 (by omega),?_⟩
  have:=h1 σc w σE M x1 S1.rs S1.env hq
  rw[S1.heap] at this
  exact this
theorem ps_put{o i value:Expr}{td ty tv:TE}{pos pos':Pos}(hu:X.A.units+1<cLine)(ho:PE X o td)(hi:PE X i ty)(hv:PE X value tv)(hs:swapsWith value (some (.Subscript o i pos')) pos.line X.env=pure false):
  PS X (.Assign [.Subscript o i pos'] value pos) (fun R σ H=>tv σ H fun v H1=>td σ H1 fun x H2=>ty σ H2 fun y H3=>rSetL x y v H3 (fun H4=>R.nx σ H4)∨∃a H4,x= .ref a∧DPut H3 a y v H4∧R.nx σ H4):=by
 intro pins s σ H D I h
 refine wpAny_Assign_Subscript (thn (hv pins s σ H _ I h) fun r s1 ⟨v,H1,I1,rv,q1⟩=>thn (ho pins s1 σ H1 _ I1 q1) fun u s2 ⟨x,H2,I2,rx,q2⟩=>thn (hi pins s2 σ H2 _ I2 q2) fun iv s3 ⟨y,H3,I3,ry,q3⟩=>?_) hs
 rcases q3 with q3 | ⟨a,H4,ex,g,q3⟩
 ·exact thn (set_list pins s3 σ H3 x y v u iv r (fun H4=>D.nx σ H4) I3 rx ry rv q3) fun _ s4 ⟨H4,I4,q4⟩=>⟨σ,H4,I4,q4⟩
 ·subst ex
  obtain rfl:u=Value.ref a:=rx
  exact d_setItem hu I3 g ry rv fun s4 I4=>⟨σ,H4,I4,q3⟩
theorem ps_raiseN{E:XK}{x:Str}{np cpos pos:Pos}{C f:Addr}{kk:Nat}{fd:FuncData}{ps:List Str}{sp:Sp}{dvs:List V}{ds:List Value}{e:Expr}{es:List Expr}{t:TA}(L:Leaves X E)(hc:X.calm=true)(Mk:ExcMk X.K C f)(F:FnOk X.prog X.w X.K X.mg X.base CX0 kk f fd ps sp)(hr:Room (kk+1) X.A)(hb:Binds X.K fd ps ds)(hd:Vals dvs ds)(hg:Gl X x)(hm:X.mg x=some (.ref C))
  (ha:PA X (e::es) t) (hdb:(x==("__debug__":Str))=false) (he:starEach (e::es) X.env=(false,eval e X.env)::starEach es X.env) (hpl:(backTo cpos (starEach es X.env)).any (·.1)=false):
  PS X (.Raise (some (.Call (.Name x np) (e::es) [] cpos)) none pos) (tRaise C sp dvs E t):=by
 intro pins s σ H D I h
 rw[arm_exec_Raise]
 simp only[evalOpt,Option.map]
 refine wpAny_bind (wpAny_standAt (raise_stmt (C:=C) (I.ok.hd hc) ?_))
 refine wpAny_bind (wpAny_mono (Q:=fun v s1=>∃(e:Addr) (nm q:Str) (N:Addr) (bs bm:List Value) (hdct:Bool) (sn:List Str) (sub:List Value) (ab:Bool) (col:Option Bool) (dd:Option Addr) (k0 k1 k2 k3 k5:Option Value) (dx:Option Addr),
   v= .ref e∧ExcCls s1.heap C nm q N bs bm hdct sn sub ab col dd k0 k1 k2 k3 k5 "ValueError" "ValueError.__new__"∧ExAt s1.heap e (.ref C) dx .none∧X.xe (.ref e) s1) ?_ (fun v s1 z=>wpAny_bind (wpAny_standAt (wpAny_pure z))) fun _ _ z=>z)
 refine wpAny_Call_Name_kw (ld_glob I hg hm ?_ hdb)
 refine PySem.W.callWith_K (h₀:=X.base) I.ok.mod.kin Mk.kp (thn (ha cpos pins s σ H _ I h) fun us s1 ⟨vs,H1,I1,r,q⟩=>⟨I1.kIn,?_⟩) he hpl
 exact raise_go L Mk F hr hb hd I1 r q.1 q.2
end
def SoundS(c:Cfg)(s:S):Prop:=∀(k:Ck) (Z:DX) (w0:Vw) (X:Cx) (st:Stmt),Good c k Z w0 X→chkS k s st=true→PS X st (tFS w0 (ts c Z s))
def SoundSs(c:Cfg)(s:Ss):Prop:=∀(k:Ck) (Z:DX) (w0:Vw) (X:Cx) (st:List Stmt),Good c k Z w0 X→chkSs k s st=true→PSs X st (tFS w0 (tss c Z s))
section
variable{c:Cfg}{k:Ck}{Z:DX}{w0:Vw}{X:Cx}
theorem Good.noxG(G:Good c k Z w0 X):Good c {k with tries:=false,raises:=[]} noX w0 X.nox where
 hK:=G.hK
 wK:=G.wK
 N:=G.N
 nd:=G.nd
 sc:=G.sc
 calm:=G.calm
 units:=G.units
 fns:=fun h f x sp h1 h2=>by
  obtain⟨kk,f,fd,ps,ds,dvs,dD,sp0,h⟩:=G.fns h f x sp h1 h2
  exact⟨kk,f,fd,ps,ds,dvs,dD,sp0,h⟩
 flen:=G.flen
 glb:=G.glb
 blt:=G.blt
 exc:=⟨E0,fun _ _ _ _ _ _ _ h=>by
  obtain⟨_,_,_,_,_,_,_,_,_,_,_,_,_,_,_,h⟩:=h
  exact h.elim,fun cls dd H' h=>by
  obtain⟨_,_,_,_,_,_,_,_,_,_,_,_,_,h⟩:=h
  exact h.elim⟩
 stk:=fun h=>by cases h
 rai:=fun _ h=>absurd h Bool.false_ne_true
 po:=fun _=>PassesOwn.never
 fnc:=G.fnc
 fno:=G.fno
theorem Good.heldG(G:Good c k Z w0 X)(e:Addr):Good c {k with calm:=false,loops:=true,tries:=false,raises:=[]} noX w0 (Held X e) where
 hK:=G.hK
 wK:=G.wK
 N:=G.N
 nd:=G.nd
 sc:=G.sc
 calm:=fun h=>by cases h
 units:=G.units
 fns:=fun h=>by cases h
 flen:=G.flen
 glb:=G.glb
 blt:=G.blt
 exc:=⟨E0,fun _ _ _ _ _ _ _ h=>by
  obtain⟨_,_,_,_,_,_,_,_,_,_,_,_,_,_,_,h⟩:=h
  exact h.elim,fun cls dd H' h=>by
  obtain⟨_,_,_,_,_,_,_,_,_,_,_,_,_,h⟩:=h
  exact h.elim⟩
 stk:=fun h=>by cases h
 rai:=fun _ h=>absurd h Bool.false_ne_true
 po:=fun _=>PassesOwn.never
 fnc:=G.fnc
 fno:=G.fno
def tFX(w0:Vw)(g:DX→DE):TEX:=fun σ H Q E=>∃w σD M QD Z,StOk w0 w σD M σ H∧g Z σD M QD∧Aft w QD Q∧∀cls dd H',xkOf w Z cls dd H'→E cls dd H'
theorem PEX.imp{e:Expr}{t t':TEX}(h:PEX X e t)(q:∀σ H Q E,t' σ H Q E→t σ H Q E):PEX X e t':=fun pins s σ H Q E I z=>h pins s σ H Q E I (q σ H Q E z)
theorem pex_call0{kk:Nat}{f:Addr}{fd:FuncData}{ps:List Str}{sp:Sp}{dvs:List V}{ds:List Value}{x:Str}{p pos:Pos}(F:FnOk X.prog X.w X.K X.mg X.base (CX1 X.prog X.w) kk f fd ps sp)(hr:Room kk X.A)(hg:Gl X x)(hm:X.mg x=some (.ref f))(hk:PySem.W.keepIn X.K (.ref f)=true)(hb:Binds X.K fd ps ds)(hd:Vals dvs ds)
  (hdb:(x==("__debug__":Str))=false):PEX X (.Call (.Name x p) [] [] pos) (tCallX sp dvs tNil):=by
 intro pins s σ H Q E I h
 refine wpAny_Call_Name_kw (ld_glob I hg hm ?_ hdb)
 refine PySem.W.callWith_K0 I.kIn hk ?_
 have hl:([]++ds).length=ps.length:=by
  have r2:Vals ([]++dvs) ([]++ds):=hd
  rw[←r2.length];exact F.len _ _ _ _ h
 refine wpAny_call (codeAny_mono (F.run X.A X.stack s H ⟨[],[]⟩ ([]++ds) ([]++dvs) Q E hr I.env0 (hb s [] I.kIn hl) hd h) fun rr s' hq=>?_)
 cases rr with
 | error z=>exact xp_of I hq
 | ok fl=>
  cases fl with
  | ret u=>exact I.after hq
  | next=>exact False.elim hq
  | brk=>exact False.elim hq
  | cont=>exact False.elim hq
theorem sound_callX{f:Nat}{es:Es}{x:Str}{np pos:Pos}{ls:List Expr}(G:Good c k Z w0 X)(h:chkE {k with tries:=false,raises:=[]} (.call f es) (.Call (.Name x np) ls [] pos)=true):PEX X (.Call (.Name x np) ls [] pos) (tFX w0 fun Z=>fun σD M QD=>tes c noX es σD M fun ds M1=>match c.Γ[f]? with
  | some sp=>sp ds M1 QD Z
  | none=>False):=by
 change (_&&_)=true at h
 simp only[Bool.and_eq_true,beq_iff_eq] at h
 obtain⟨⟨⟨hc,hf⟩,hg⟩,hs⟩:=h
 obtain⟨g1,g2,g3⟩:=G.gl hg
 cases hsp:c.Γ[f]? with
 | none=>
  have h1:=(List.getElem?_eq_some_iff.mp hf).1
  have h2:=List.getElem?_eq_none_iff.mp hsp
  rw[G.flen] at h1
  omega
 | some sp=>
  obtain⟨kk,fa,fd,pr,ds,dvs,dD,sp0,F,hr,hm,hk,hb,hd,hD,hsp0⟩:=G.fns hc f x sp hf hsp
  have key:∀σ H Q E,tFX w0 (fun Z=>fun σD M QD=>tes c noX es σD M fun ds M1=>sp ds M1 QD Z) σ H Q E→tFA w0 (tes c noX es) σ H fun vs H1=>spF X.K sp0 (vs++dvs) H1 Q E:=by
   rintro σ H Q E ⟨w,σD,M,QD,Z',S,g,a,xk⟩
   refine⟨w,σD,M,_,S,g,fun vs w' ds' M' x' r' rd' q'=>?_⟩
   have hKw:w'.K=X.K:=by rw[x'.K,S.K,G.eK]
   exact⟨w',ds'++dD,M',QD,Z',hKw,rfl,r',rd'.append (hD w' hKw),hsp0 _ _ _ _ q',a.ext x',fun cls dd H' hx=>xk cls dd H' (xkOf_mono x' hx)⟩
  cases ls with
  | nil=>
   refine PEX.imp (pex_call0 F hr g1 hm hk hb hd g2) fun σ H Q E h=>?_
   obtain⟨w,σD,M,QD,S,g,a⟩:=key σ H Q E h
   cases es with
   | nil=>
    have:=a [] w [] M (Ext.refl w) S.rs (RDs.nil w) g
    rw[S.heap] at this
    exact this
   | cons e r=>exact absurd hs Bool.false_ne_true
  | cons l ls=>
   cases es with
   | nil=>exact absurd hs Bool.false_ne_true
   | cons e r=>
    have ih:=(soundEs c (.cons e r) _ _ w0 X.nox (l::ls) G.noxG hs).1
    change (_&&_)=true at hs
    simp only[Bool.and_eq_true] at hs
    exact PEX.imp (pex_call F hr g1 hm hk hb hd ih g2 (star_cons hs.1.2) (any_back (star_none r ls hs.2))) key
def tTryN(K:PySem.W.Frag)(D:Addr)(tb:TSX)(ts:TS):TS:=fun R σ H=>tb R (fun cls dd H1=>∃C,cls= .ref C∧Catch K C D true∧ts R σ H1) σ H
theorem ps_tryN{X:Cx}{body suite:List Stmt}{b₀:Stmt}{x:Str}{np hpos pos:Pos}{D:Addr}{tb:TSX}{ts:TS}(hb:PSX X body tb)(hs:∀e,PSs (Held X e) (b₀::suite) ts)(hg:Gl X x)(hm:X.mg x=some (.ref D))(L:X.stack=X.env::X.outer)(hf:X.env.frame=some X.env.locals)
  (hdb:(x==("__debug__":Str))=false:=by decide):PS X (.Try body [.ExceptHandler (some (.Name x np)) none (b₀::suite) hpos] [] [] pos) (tTryN X.K D tb ts):=by
 intro pins s σ H R I h
 refine wpAny_Try_except (wpAny_mono (hb pins s σ H R _ I h) (fun f s1 q=>?_) fun y s1 q=>?_)
 ·cases f with
  | next=>exact wpAny_execs_nil q
  | ret v=>exact q
  | brk=>exact q
  | cont=>exact q
 obtain⟨e,T,cls,dd,H1,rfl,I1,ft,hTe,he,x1,t1,C,rfl,S,q⟩:=q
 refine note_next (outer:=X.outer) (base:=X.base) (L:=X.env.locals) (by rw[←L];exact I1.ok.frames) (by rw[←L];exact I1.stack) hf x1 t1 hTe fun h2 T1 z1 z2 z3 z4 z5=>?_
 have I2:Inv X pins σ H1 {s1 with heap:=h2}:=noted_in I1 ft he z3 (by rw[L];exact z5)
 have f2:FpOk X pins H1 T1:=I1.fpOk z1 (I1.hok.fresh z1)
 refine set_flight (s:={s1 with heap:=h2}) z3 z4 z2 fun h3 x3 t3 k3 _=>?_
 have I3:Inv X pins σ H1 {s1 with heap:=h3}:=flown_in (s:={s1 with heap:=h2}) I2 f2 k3
 have J3:=held_in I3 e
 refine wpAny_handleBy_cons (codeAny_handlers_test ?_) (by intro z;cases z)
 refine ld_glob (X:=Held X e) J3 hg hm ?_ hdb
 obtain⟨oe,vs,y1,⟨y2,y3⟩,y4,y5⟩:=id x3
 refine exc_matches (s:={s1 with heap:=h3}) J3.kIn S y1 y2 ?_
 refine PySem.codeAny_handlers_suite ?_
 refine set_flight (s:={s1 with heap:=h3}) x3 t3 z2 fun h4 x4 t4 k4 _=>?_
 have J4:Inv (Held X e) pins σ H1 {s1 with heap:=h4}:=flown_in (s:={s1 with heap:=h3}) J3 f2 k4
 refine wpAny_mono (hs e pins _ _ H1 _ J4 q) (fun f s6 q6=>?_) fun _ _ z=>z.elim
 cases f with
 | next=>
  obtain⟨σ6,H6,J6,q6⟩:=q6
  exact⟨_,_,held_out I.ok J6,q6⟩
 | brk=>
  obtain⟨σ6,H6,J6,q6⟩:=q6
  exact⟨_,_,held_out I.ok J6,q6⟩
 | cont=>
  obtain⟨σ6,H6,J6,q6⟩:=q6
  exact⟨_,_,held_out I.ok J6,q6⟩
 | ret u=>
  obtain⟨v,σ6,H6,J6,rv,q6⟩:=q6
  exact⟨v,_,_,held_out I.ok J6,rv,q6⟩
theorem sound_tryN{h:Tk}{f:Nat}{es:Es}{g:Nat}{sx:Ss}{bs s0:Stmt}{ss:List Stmt}{x:Str}{np hp pos:Pos}(G:Good c k Z w0 X)(hc:k.calm=true)(ht:k.tries=true)(hg:k.GN[g]?=some x)(hgl:k.glob x=true)
  (hb:chkB {k with tries:=false,raises:=[]} h f es bs=true) (hs:chkSs {k with calm:=false,loops:=true,tries:=false,raises:=[]} sx (s0::ss)=true) (ih:SoundSs c sx):
  PS X (.Try [bs] [.ExceptHandler (some (.Name x np)) none (s0::ss) hp] [] [] pos) (tFS w0 (ts c Z (.tryN h f es g sx))):=by
 obtain⟨g1,g2,g3⟩:=G.gl hgl
 obtain⟨st1,st2⟩:=G.stk ht
 have never:(∀D,c.G[g]?≠some (.cls D))→PS X (.Try [bs] [.ExceptHandler (some (.Name x np)) none (s0::ss) hp] [] [] pos) (tFS w0 (ts c Z (.tryN h f es g sx))):=fun no=>
  PS.imp ps_never fun R σ H ⟨w,σD,M,RR,S,q,_⟩=>by
   unfold ts at q
   split at q
   ·rename_i D e;exact(no D e).elim
   ·exact q
 by_cases hD:∃D,c.G[g]?=some (.cls D)
 ·obtain⟨Dc,hD⟩:=hD
  obtain⟨v,u,q1,q2,q3⟩:=G.glb g x _ hg hD
  have hv:v= .ref Dc:=rd_cls.mp (q3 ⟨X.K,fun _=>none,fun _=>0,0⟩ rfl)
  subst hv
  cases (show u=Value.ref Dc from q2)
  have suite:∀e,PSs (Held X e) (s0::ss) (tFS w0 (tss c noX sx)):=fun e=>ih _ _ w0 (Held X e) (s0::ss) (G.heldG e) hs
  have key:∀(R:Ends) (σ:L2.St) (H:Hp) (Q:VK),tFS w0 (ts c Z (.tryN h f es g sx)) R σ H→(∀(RR:DEnds) (σD:DEnv) (w:Vw),REnv w σD σ→(∀σ' w' σD' M',Ext w w'→RS w' M'→REnv w' σD' σ'→RR.nx σD' M'→R.nx σ' w'.H)→Aft w RR.rt R.rt→Aft w (tkD h RR σD) Q)→
    tFX w0 (fun Z=>fun σD M QD=>tes c noX es σD M fun ds M1=>match c.Γ[f]? with
     | some sp=>sp ds M1 QD Z
     | none=>False) σ H Q (fun cls dd H1=>∃C,cls= .ref C∧Catch X.K C Dc true∧tFS w0 (tss c noX sx) R σ H1):=by
   rintro R σ H Q ⟨w,σD,M,RR,S,q,h1,h2,h3,h4⟩ hQ
   unfold ts at q
   rw[hD] at q
   refine⟨w,σD,M,tkD h RR σD,_,S,q,hQ RR σD w S.env h1 h2,?_⟩
   rintro cls dd H' ⟨C,dx,r,w',row,M',rfl,rfl,rfl,x',r',z1,z2,z3,z4⟩
   refine⟨C,rfl,by rw[G.hK];exact z3,?_⟩
   refine tFS_of (RR:=RR) ⟨rfl,S.ext.trans x',r',S.env.ext x'⟩ z4 ?_ ?_ ?_ ?_
   ·exact fun σ' w2 σD' M2 x2 r2 e2 q2=>h1 _ w2 _ M2 (x'.trans x2) r2 e2 q2
   ·exact h2.ext x'
   ·exact fun σ' w2 σD' M2 x2 r2 e2 q2=>h3 _ w2 _ M2 (x'.trans x2) r2 e2 q2
   ·exact fun σ' w2 σD' M2 x2 r2 e2 q2=>h4 _ w2 _ M2 (x'.trans x2) r2 e2 q2
  have fin:∀{tb:TSX},PSX X [bs] tb→(∀R σ H,tFS w0 (ts c Z (.tryN h f es g sx)) R σ H→tb R (fun cls dd H1=>∃C,cls= .ref C∧Catch X.K C Dc true∧tFS w0 (tss c noX sx) R σ H1) σ H)→
    PS X (.Try [bs] [.ExceptHandler (some (.Name x np)) none (s0::ss) hp] [] [] pos) (tFS w0 (ts c Z (.tryN h f es g sx))):=fun{tb} hb' hk=>
   PS.imp (ps_tryN hb' suite g1 q1 st1 st2 g2) hk
  unfold chkB at hb
  split at hb
  ·split at hb
   ·refine fin (psx_expr (sound_callX G hb) rfl) fun R σ H q=>key R σ H _ q fun RR σD w env h1 h2=>fun v w' d M' x' r' rd' q'=>h1 σ w' σD M' x' r' (env.ext x') q'
   ·cases hb
  ·split at hb
   ·refine fin (psx_ret (sound_callX G hb)) fun R σ H q=>key R σ H _ q fun RR σD w env h1 h2=>h2
   ·cases hb
  ·split at hb
   ·rename_i j
    simp only[Bool.and_eq_true,beq_iff_eq] at hb
    obtain⟨⟨hb1,hb2⟩,hb3⟩:=hb
    have hj:=(congrArg (fun N:List Str=>N[j]?) G.N).trans hb1
    unfold Ck.loc at hb2
    have hjl:=eq_of_beq hb2
    dsimp only at hjl
    rw[←G.sc] at hjl
    refine fin (psx_set G.nd hj (.inl hjl) (sound_callX G hb3) rfl (.inr hjl)) fun R σ H q=>key R σ H _ q fun RR σD w env h1 h2=>fun v w' d M' x' r' rd' q'=>h1 _ w' _ M' x' r' ((env.ext x').set j rd') q'
   ·cases hb
  ·cases hb
 ·exact never fun D e=>hD ⟨D,e⟩
end
section
variable{c:Cfg}{k:Ck}{Z:DX}{w0:Vw}{X:Cx}
theorem raise_heap{H:Hp}{e dx:Addr}{a b c' d':HO}(h:(upd H e a) dx=none):upd (upd (upd (upd H e a) dx b) e c') e d'=upd (upd H dx b) e d'∧dx≠e:=by
 have hne:dx≠e:=by
  rintro rfl
  rw[upd_same] at h
  cases h
 refine⟨?_,hne⟩
 funext p
 unfold upd
 by_cases h1:p=e
 ·simp[h1]
 ·by_cases h2:p=dx
  ·simp[h2,hne]
  ·simp[h1,h2]
theorem sound_raise{g:Nat}{es:Es}{x:Str}{np cpos pos:Pos}{ls:List Expr}(G:Good c k Z w0 X)(hc:k.calm=true)(hr:k.raises.contains g=true)(hg:k.GN[g]?=some x)(hgl:k.glob x=true)(hn:ls.length≤1)(hs:chkEs k es ls=true)(ih:PA X ls (tFA w0 (tes c Z es))):
  PS X (.Raise (some (.Call (.Name x np) ls [] cpos)) none pos) (tFS w0 (ts c Z (.raise g es))):=by
 obtain⟨g1,g2,g3⟩:=G.gl hgl
 by_cases hD:∃C,c.G[g]?=some (.cls C)
 ·obtain⟨C,hD⟩:=hD
  obtain⟨v,u,q1,q2,q3⟩:=G.glb g x _ hg hD
  have hv:v= .ref C:=rd_cls.mp (q3 ⟨X.K,fun _=>none,fun _=>0,0⟩ rfl)
  subst hv
  cases (show u=Value.ref C from q2)
  obtain⟨⟨E,L,xk⟩,rs⟩:=G.rai g hr
  obtain⟨kk,f,fd,Mk,F,room,b1,b0,S0⟩:=rs C hD
  have key:∀(R:Ends) (σ:L2.St) (H:Hp) (dvs:List V) (row:List D→D),(∀(w:Vw) ds vs r,excD ds=some r→RDs w ds vs→ds.length=ls.length→∃y,vs++dvs=[y]∧RD w r y)→(∀σD M QD,tes c Z es σD M QD→tes c Z es σD M fun ds M1=>ds.length=ls.length∧QD ds M1)→tFS w0 (ts c Z (.raise g es)) R σ H→
    tFA w0 (tes c Z es) σ H fun vs H1=>vs.length≤8∧∀e,H1 e=none→spInit X.K (.ref e::(vs++dvs)) (upd H1 e (XN e (.ref C) none)) (fun v H2=>v= .non∧∃dd,H2 e=some (XN e (.ref C) dd)∧E (.ref C) dd (upd H2 e (XO e (.ref C) dd))) E0:=by
   rintro R σ H dvs row hrow hlen ⟨w,σD,M,RR,S,q,_⟩
   unfold ts at q
   rw[hD] at q
   refine⟨w,σD,M,_,S,hlen _ _ _ q,fun vs w' ds M' x' r' rd' q'=>?_⟩
   obtain⟨hl,q'⟩:=q'
   split at q'
   ·rename_i r er
    obtain⟨y,ey,ry⟩:=hrow w' ds vs r er rd' hl
    have hvl:vs.length≤8:=by
     have:=congrArg List.length ey
     simp at this
     omega
    refine⟨hvl,fun e he=>⟨e,C,y,by rw[ey],upd_same,S0,fun dx hdx=>⟨rfl,some dx,upd_same,?_⟩⟩⟩
    obtain⟨eH,hne⟩:=raise_heap (b:= .xd [("row",y)]) (c':=XN e (.ref C) (some dx)) (d':=XO e (.ref C) (some dx)) hdx
    rw[eH]
    have hdx':w'.H dx=none:=by rw[upd_ne hne] at hdx;exact hdx
    have he':(w'.alloc dx (.xd [("row",y)])).H e=none:=by
     show upd w'.H dx _ e=none
     rw[upd_ne (Ne.symm hne)];exact he
    have y1:=ext_alloc (o:= .xd [("row",y)]) hdx'
    have y2:=ext_alloc (o:=XO e (.ref C) (some dx)) he'
    have y12:=y1.trans y2
    refine xk _ _ _ ⟨C,dx,y,(w'.alloc dx (.xd [("row",y)])).alloc e (XO e (.ref C) (some dx)),r,M',rfl,rfl,rfl,(S.ext.trans x').trans y12,(r'.alloc hdx').alloc he',?_,ry.ext y12,q'⟩
    rw[upd_ne hne,upd_same]
   ·exact q'.elim
  cases ls with
  | nil=>
   cases es with
   | cons e r=>exact absurd hs Bool.false_ne_true
   | nil=>
    refine PS.imp (ps_raise0 L (G.calm hc) Mk F room b1 (dvs:=[.non]) (.cons rfl .nil) g1 q1 g2) fun R σ H h=>?_
    obtain⟨w,σD,M,QD,S,q,a⟩:=key R σ H [.non] (fun _=> .non) (fun w ds vs r er rd hl=>by
     cases List.length_eq_zero_iff.mp hl
     cases rds0 rd
     cases er
     exact⟨.non,rfl,rd_non.mpr rfl⟩) (fun σD M QD h=>⟨rfl,h⟩) h
    have:=a [] w [] M (Ext.refl w) S.rs (RDs.nil w) q
    rw[S.heap] at this
    exact this
  | cons l ls=>
   cases ls with
   | cons _ _=>simp at hn
   | nil=>
    cases es with
    | nil=>exact absurd hs Bool.false_ne_true
    | cons ee r=>
     cases r with
     | cons _ _=>
      change (_&&_)=true at hs
      simp only[Bool.and_eq_true] at hs
      exact absurd hs.2 Bool.false_ne_true
     | nil=>
      change (_&&_)=true at hs
      simp only[Bool.and_eq_true] at hs
      refine PS.imp (ps_raiseN L (G.calm hc) Mk F room b0 (dvs:=[]) .nil g1 q1 ih g2 (star_cons hs.1.2) rfl) fun R σ H h=>?_
      exact key R σ H [] (fun _=> .non) (fun w ds vs r er rd hl=>by
       match ds,hl with
       | [d],_=>
        obtain⟨y,rfl,ry⟩:=rds1 rd
        cases er
        exact⟨y,rfl,ry⟩) (fun σD M QD h=>by
       have e:(fun(d:D) (M1:Store)=>QD [d] M1)=fun d M1=>[d].length=[l].length∧QD [d] M1:=by
        funext d M1
        exact propext ⟨fun z=>⟨rfl,z⟩,fun z=>z.2⟩
       have h':te c Z ee σD M fun(d:D) (M1:Store)=>QD [d] M1:=h
       rw[e] at h'
       exact h') h
 ·refine PS.imp ps_never fun R σ H ⟨w,σD,M,RR,S,q,_⟩=>?_
  unfold ts at q
  split at q
  ·rename_i C e;exact(hD ⟨C,e⟩).elim
  ·exact q
end
theorem swap_shape{k:Ck}{t x:Expr}(h:swapB k t x=true):∃n np el gens scope p,t= .Name n np∧x= .ListComp el gens scope p:=by
 cases t with
 | Name n np=>
  cases x with
  | ListComp el gens scope p=>exact⟨_,_,_,_,_,_,rfl,rfl⟩
  | _=>exact absurd h Bool.false_ne_true
 | _=>exact absurd h Bool.false_ne_true
theorem cell_shape{k:Ck}{t x:Expr}(h:cellB k t x=true):∃n np el gens scope p,t= .Name n np∧x= .ListComp el gens scope p∧k.sc.names.lookup n=some .cell:=by
 cases t with
 | Name n np=>
  cases x with
  | ListComp el gens scope p=>exact⟨_,_,_,_,_,_,rfl,rfl,eq_of_beq h⟩
  | _=>exact absurd h Bool.false_ne_true
 | _=>exact absurd h Bool.false_ne_true
theorem comp_shape{k:Ck}{e:E}{el:Expr}{gens:List Comprehension}{scope:Scope}{p:Pos}(h:chkE k e (.ListComp el gens scope p)=true):
  ∃N' js tg it cd e' t iter ifs,e= .comp N' js tg it cd e'∧gens=[⟨t,iter,ifs,0⟩]:=by
 cases e with
 | comp N' js tg it cd e'=>
  cases gens with
  | nil=>exact absurd h Bool.false_ne_true
  | cons g r=>
   cases g with
   | mk t iter ifs as=>
    cases as with
    | ofNat n=>
     cases n with
     | zero=>
      cases r with
      | nil=>exact⟨_,_,_,_,_,_,_,_,_,rfl,rfl⟩
      | cons _ _=>exact absurd h Bool.false_ne_true
     | succ n=>exact absurd h Bool.false_ne_true
    | negSucc n=>exact absurd h Bool.false_ne_true
 | bop b es=>cases b<;>exact absurd h Bool.false_ne_true
 | _=>exact absurd h Bool.false_ne_true
theorem sound_set(c:Cfg)(tg:List Nat)(e:E):SoundS c (.set tg e):=by
  intro k Z w0 X st G h
  cases st with
  | Assign ts' x pos=>
   match ts',h with
   | [t],h=>
    change (_&&_)=true at h
    simp only[Bool.and_eq_true,Bool.or_eq_true,decide_eq_true_eq] at h
    obtain⟨⟨ht,he⟩,h⟩:=h
    rcases h with(⟨hc,hs⟩ | ⟨hs,hl⟩) | hs
    rotate_left 2
    ·obtain⟨n,np,el,gens,scope,p,rfl,rfl,hcell⟩:=cell_shape hs
     have h1:swapsWithSole [.Name n np] (.ListComp el gens scope p) pos.line X.env=pure false:=by
      have hk:X.env.kindOf n=some .cell:=by
       unfold Env.kindOf
       rw[G.sc];exact hcell
      have hk':(X.env.kindOf n==some NameKind.local)=false:=by rw[hk];rfl
      unfold swapsWithSole swapsWith
      simp only[hk',Bool.and_false,Bool.false_and]
     refine PS.imp (ps_asg (soundE c e k Z w0 X _ G he).1 (G.tgt tg _ ht) h1 rfl rfl) fun R σ H ⟨w,σD,M,RR,S,q,q1,q2,q3,q4⟩=>?_
     refine tF_of S q fun v w' d M' x' r' rd' q'=>?_
     exact⟨w',σD,M',d,_,S.next x' r',rd',q',fun σ' σD' e' z=>q1 σ' w' σD' M' x' r' e' z⟩
    ·have h1:swapsWithSole [t] x pos.line X.env=pure false:=swap_no hc
     have h2:swappedStores [t] x X.env=pure none:=by
      cases t with
      | Name n p=>cases x<;>rfl
      | Tuple es kk p=>
       have:noTuple x=true:=hs.resolve_left (by simp[isName])
       cases x<;>first | rfl | cases this
      | _=>exact absurd ht Bool.false_ne_true
     have h3:(assignEach [t] X.env).map (·.2)=[assign t X.env]:=by
      cases t with
      | Name n p=>rfl
      | Tuple es kk p=>rfl
      | _=>exact absurd ht Bool.false_ne_true
     refine PS.imp (ps_asg (soundE c e k Z w0 X x G he).1 (G.tgt tg t ht) h1 h2 h3) fun R σ H ⟨w,σD,M,RR,S,q,q1,q2,q3,q4⟩=>?_
     refine tF_of S q fun v w' d M' x' r' rd' q'=>?_
     exact⟨w',σD,M',d,_,S.next x' r',rd',q',fun σ' σD' e' z=>q1 σ' w' σD' M' x' r' e' z⟩
    ·match tg,hl,ht with
     | [i],_,ht=>
      obtain⟨n,np,el,gens,scope,p,rfl,rfl⟩:=swap_shape hs
      obtain⟨N',js,tg,it,cd,e,t2,iter,ifs,rfl,rfl⟩:=comp_shape he
      change (_&&_)=true at he
      simp only[Bool.and_eq_true,decide_eq_true_eq] at he
      obtain⟨⟨⟨⟨⟨⟨⟨⟨h1,h2⟩,h3⟩,h4⟩,h5⟩,h6⟩,h7⟩,h8⟩,h9⟩:=he
      change (_&&_)=true at ht
      simp only[Bool.and_eq_true,beq_iff_eq] at ht
      simp only[swapB,Bool.and_eq_true,beq_iff_eq,Bool.not_eq_true'] at hs
      obtain⟨⟨⟨s1,s2⟩,s3⟩,s4⟩:=hs
      have hl':X.env.scope.names.lookup n=some .local:=by
       unfold Ck.loc at s2
       rw[G.sc];exact eq_of_beq s2
      have hsw:swapsWith (.ListComp el [⟨t2,iter,ifs,0⟩] scope p) (some (.Name n np)) pos.line X.env=pure true:=by
       unfold swapsWith
       have hb:(X.env.blockKind==ScopeKind.function)=true:=by
        unfold Env.blockKind
        rw[G.sc,s1];rfl
       have hk:(X.env.kindOf n==some NameKind.local)=true:=by
        unfold Env.kindOf
        rw[hl'];rfl
       have hp:(np.line==(Expr.ListComp el [⟨t2,iter,ifs,0⟩] scope p).pos.line)=true:=by
        show(np.line==p.line)=true
        rw[s3];simp
       simp only[hb,hk,hp,s4,Bool.not_false,Bool.and_self]
      refine PS.imp ((sound_comp G h1 h2 h3 h5 (soundI c it k Z w0 X t2 iter G h4 h9) h6 h7 h8 (soundE c e) (soundO c cd)).2 i n np pos (by rw[G.N];exact ht.1) hl' hsw) fun R σ H ⟨w,σD,M,RR,S,q,q1,q2,q3,q4⟩=>?_
      have q:te c Z (.comp N' js tg it cd e) σD M fun d M1=>RR.nx (σD.set i (some d)) M1:=q
      refine tF_of S q fun v w' d M' x' r' rd' q'=>?_
      exact q1 _ w' _ M' x' r' ((S.env.ext x').set i rd') q'
     | [],hl,_=>simp at hl
     | _::_::_,hl,_=>simp at hl
   | [],h=>exact absurd h Bool.false_ne_true
   | _::_::_,h=>exact absurd h Bool.false_ne_true
  | _=>exact absurd h Bool.false_ne_true
theorem sound_put(c:Cfg)(o i v:E):SoundS c (.put o i v):=by
  intro k Z w0 X st G h
  cases st with
  | Assign ts' x pos=>
   match ts',h with
   | [t],h=>
    cases t with
    | Subscript l r p=>
     change (_&&_)=true at h
     simp only[Bool.and_eq_true] at h
     obtain⟨⟨⟨⟨h1,h2⟩,h3⟩,h4⟩,h5⟩:=h
     refine PS.imp (ps_put (by have:=G.units;omega) (soundE c o k Z w0 X l G h4).1 (soundE c i k Z w0 X r G h5).1 (soundE c v k Z w0 X x G h3).1 (swap_no h2)) fun R σ H ⟨w,σD,M,RR,S,q,q1,q2,q3,q4⟩=>?_
     refine tF_of S q fun vv w1 dv M1 x1 r1 rd1 z1=>?_
     refine tF_of (S.next x1 r1) z1 fun vo w2 dob M2 x2 r2 rd2 z2=>?_
     refine tF_of ((S.next x1 r1).next x2 r2) z2 fun vi w3 di M3 x3 r3 rd3 z3=>?_
     split at z3
     ·obtain⟨hn,rfl⟩:=rd_ref.mp (rd2.ext x3)
      rcases z3 with⟨xs,kk,j,rfl,y1,y2,y3⟩ | ⟨kvs,kk,y1,y2,y3,y4⟩
      ·cases rd_int.mp rd3
       obtain⟨hn,vs,u1,u2⟩:=r3.list y1
       obtain⟨t1,t2⟩:=write_list r3 hn u1 (u2.set (rd1.ext (x2.trans x3)) j)
       exact .inl ⟨_,vs,kk,j,rfl,rfl,u1,by rw[u2.length];exact y2,q1 σ _ σD _ (((x1.trans x2).trans x3).trans t1) t2 (S.env.ext (((x1.trans x2).trans x3).trans t1)) y3⟩
      ·obtain⟨hn,vs,u1,u2⟩:=r3.dict y1
       cases keyD_kV y2 rd3
       obtain⟨t1,t2⟩:=write_dict r3 hn u1 (u2.put (k:=kk) (rd1.ext (x2.trans x3)))
       exact .inr ⟨_,_,rfl,DPut.k (k:=kk) u1 (by rw[u2.length];exact y3),q1 σ _ σD _ (((x1.trans x2).trans x3).trans t1) t2 (S.env.ext (((x1.trans x2).trans x3).trans t1)) y4⟩
     ·exact z3.elim
    | _=>exact absurd h Bool.false_ne_true
   | [],h=>exact absurd h Bool.false_ne_true
   | a::b::r,h=>cases a<;>exact absurd h Bool.false_ne_true
  | _=>exact absurd h Bool.false_ne_true
theorem tryN_shape{k:Ck}{hh:Tk}{f:Nat}{es:Es}{g:Nat}{s:Ss}{st:Stmt}(h:chkS k (.tryN hh f es g s) st=true):∃bs x np s0 ss hp pos,st= .Try [bs] [.ExceptHandler (some (.Name x np)) none (s0::ss) hp] [] [] pos∧
  (k.calm&&k.tries&&k.GN[g]?==some x&&k.glob x&&chkB {k with tries:=false,raises:=[]} hh f es bs&&
   chkSs {k with calm:=false,loops:=true,tries:=false,raises:=[]} s (s0::ss))=true:=by
 cases st with
 | Try b hs o f pos=>
  cases b with
  | nil=>exact absurd h Bool.false_ne_true
  | cons b0 b1=>
  cases b1 with
  | cons _ _=>exact absurd h Bool.false_ne_true
  | nil=>
  cases hs with
  | nil=>exact absurd h Bool.false_ne_true
  | cons h0 h1=>
  cases h0 with
  | ExceptHandler ty nm bd hp=>
  cases ty with
  | none=>exact absurd h Bool.false_ne_true
  | some ty=>
  cases ty with
  | Name x np=>
   cases nm with
   | some n=>exact absurd h Bool.false_ne_true
   | none=>
   cases bd with
   | nil=>exact absurd h Bool.false_ne_true
   | cons s0 ss=>
   cases h1 with
   | cons _ _=>exact absurd h Bool.false_ne_true
   | nil=>
   cases o with
   | cons _ _=>exact absurd h Bool.false_ne_true
   | nil=>
   cases f with
   | cons _ _=>exact absurd h Bool.false_ne_true
   | nil=>exact⟨_,_,_,_,_,_,_,rfl,h⟩
  | _=>exact absurd h Bool.false_ne_true
 | _=>exact absurd h Bool.false_ne_true
theorem raise_shape{k:Ck}{g:Nat}{es:Es}{st:Stmt}(h:chkS k (.raise g es) st=true):∃x np ls cp pos,st= .Raise (some (.Call (.Name x np) ls [] cp)) none pos∧
  (k.calm&&k.raises.contains g&&k.GN[g]?==some x&&k.glob x&&decide (ls.length≤1)&&chkEs k es ls)=true:=by
 cases st with
 | Raise ex ca pos=>
  cases ex with
  | none=>exact absurd h Bool.false_ne_true
  | some ex=>
  cases ex with
  | Call fn ls ks cp=>
   cases fn with
   | Name x np=>
    cases ks with
    | cons _ _=>exact absurd h Bool.false_ne_true
    | nil=>
    cases ca with
    | some _=>exact absurd h Bool.false_ne_true
    | none=>exact⟨_,_,_,_,_,rfl,h⟩
   | _=>exact absurd h Bool.false_ne_true
  | _=>exact absurd h Bool.false_ne_true
 | _=>exact absurd h Bool.false_ne_true
mutual
theorem soundS(c:Cfg):∀s:S,SoundS c s
 | .cont,k,Z,w0,X,st,G,h=>by
  cases st with
  | Continue pos=>
   refine PS.imp ps_continue fun R σ H ⟨w,σD,M,RR,S,q,h1,h2,h3,h4⟩=>?_
   have:=h4 σ w σD M (Ext.refl w) S.rs S.env q
   rw[S.heap] at this
   exact this
  | _=>exact absurd h Bool.false_ne_true
 | .ret e,k,Z,w0,X,st,G,h=>by
  cases st with
  | Return v pos=>
   cases v with
   | some x=>exact PS.imp (ps_ret (soundE c e k Z w0 X x G h).1) fun R σ H ⟨w,σD,M,RR,S,q,h1,h2,h3,h4⟩=>tF_of S q h2
   | none=>exact absurd h Bool.false_ne_true
  | _=>exact absurd h Bool.false_ne_true
 | .expr e,k,Z,w0,X,st,G,h=>by
  cases st with
  | Expr x pos=>
   change (_&&_)=true at h
   simp only[Bool.and_eq_true] at h
   exact PS.imp (ps_expr (soundE c e k Z w0 X x G h.2).1 (swap_no h.1)) fun R σ H ⟨w,σD,M,RR,S,q,h1,h2,h3,h4⟩=>tF_of S q fun v w' d M' x' r' rd' q'=>h1 σ w' σD M' x' r' (S.env.ext x') q'
  | _=>exact absurd h Bool.false_ne_true
 | .set tg e,k,Z,w0,X,st,G,h=>sound_set c tg e k Z w0 X st G h
 | .put o i v,k,Z,w0,X,st,G,h=>sound_put c o i v k Z w0 X st G h
 | .ite t a b,k,Z,w0,X,st,G,h=>by
  cases st with
  | If x ls rs pos=>
   change (_&&_)=true at h
   simp only[Bool.and_eq_true] at h
   obtain⟨⟨⟨h1,h2⟩,h3⟩,h4⟩:=h
   refine PS.imp (ps_if ((soundE c t k Z w0 X x G h1).2 h2) (soundSs c a k Z w0 X ls G h3) (soundSs c b k Z w0 X rs G h4)) fun R σ H ⟨w,σD,M,RR,S,q,q1,q2,q3,q4⟩=>?_
   refine⟨w,σD,M,_,S,q,fun z w1 M1 x1 r1 y1=>?_⟩
   have fin:∀{f:DS},f RR σD M1→tFS w0 f R σ w1.H:=fun hf=>tFS_of (S.next x1 r1) hf (fun σ' w' σD' M' x' r' e' z=>q1 σ' w' σD' M' (x1.trans x') r' e' z) (q2.ext x1)
    (fun σ' w' σD' M' x' r' e' z=>q3 σ' w' σD' M' (x1.trans x') r' e' z) (fun σ' w' σD' M' x' r' e' z=>q4 σ' w' σD' M' (x1.trans x') r' e' z)
   cases z with
   | true=>
    rw[if_pos rfl] at y1
    show if (true:Bool)=true then _ else _
    rw[if_pos rfl];exact fin y1
   | false=>
    rw[if_neg Bool.false_ne_true] at y1
    show if (false:Bool)=true then _ else _
    rw[if_neg Bool.false_ne_true];exact fin y1
  | _=>exact absurd h Bool.false_ne_true
 | .for_ tg it b,k,Z,w0,X,st,G,h=>by
  cases st with
  | For t x ls els pos=>
   cases els with
   | nil=>
    change (_&&_)=true at h
    simp only[Bool.and_eq_true] at h
    obtain⟨⟨⟨⟨⟨⟨h1,h2⟩,h3⟩,h4⟩,h5⟩,h6⟩,h7⟩:=h
    have hf:∀v,foldedSetIterable x X.env v=pure v:=by
     intro v
     cases x<;>first | rfl | cases h3
    refine PS.imp (ps_for (G.po h2) (G.calm h1) (soundI c it k Z w0 X t x G h5 h7) (G.tgt tg t h4) (soundSs c b k Z w0 X ls G h6) hf) fun R σ H ⟨w,σD,M,RR,S,q,q1,q2,q3,q4⟩=>?_
    refine⟨w,σD,M,_,S,q,fun J w1 own xs M1 x1 r1 jk z=>?_⟩
    exact for_run (S.next x1 r1) jk z (fun σ' w' σD' M' x' r' e' z=>q1 σ' w' σD' M' (x1.trans x') r' e' z) (q2.ext x1)
   | cons _ _=>exact absurd h Bool.false_ne_true
  | _=>exact absurd h Bool.false_ne_true
 | .forK tg e b,k,Z,w0,X,st,G,h=>by
  cases st with
  | For t x ls els pos=>
   cases els with
   | nil=>
    change (_&&_)=true at h
    simp only[Bool.and_eq_true] at h
    obtain⟨⟨⟨⟨⟨h1,h2⟩,h3⟩,h4⟩,h5⟩,h6⟩:=h
    have hf:∀v,foldedSetIterable x X.env v=pure v:=by
     intro v
     cases x<;>first | rfl | cases h3
    refine PS.imp (ps_thaw (ps_for (G.po h2) (G.calm h1) (pi_keys (soundE c e k Z w0 X x G h5).1) (G.tgt tg t h4) (soundSs c b k Z w0 X ls G h6) hf)) fun R σ H ⟨w,σD,M,RR,S,q,q1,q2,q3,q4⟩=>?_
    refine tF_of S q fun v w1 d M1 x1 r1 rd1 z=>?_
    split at z
    ·obtain⟨hn,rfl⟩:=rd_ref.mp rd1
     obtain⟨kvs,z1,z2⟩:=z
     obtain⟨hM,vs,y1,y2⟩:=r1.dict z1
     refine⟨_,vs,rfl,y1,fun o nf=>?_⟩
     rename_i _ n
     have x2:Ext w1 (w1.alloc (w1.μ n) (.frz o (.dK vs))):=ext_write y1 rfl
     have r2:RS (w1.alloc (w1.μ n) (.frz o (.dK vs))) (M1.set n (.fdc kvs)):=r1.write hM rfl rfl y1 rfl ⟨o,vs,upd_same,y2.ext x2⟩
     refine for_run (R:=thawE X R) (S.next (x1.trans x2) r2) (jok_keys (w1:=w1.alloc (w1.μ n) (.frz o (.dK vs))) (n:=n) hn upd_same) z2 (fun σ' w' σD' M' x' r' e' ⟨kvs',t1,t2⟩=>?_) (fun v w' d M' x' r' rd' ⟨kvs',t1,t2⟩=>?_)
     ·obtain⟨a1,a2,a3,a4⟩:=thaw_view hn y1 x' r' t1
      exact⟨_,o,vs,a1,nf,q1 σ' _ σD' _ (x1.trans a2) a4 (e'.ext0 a3) t2⟩
     ·obtain⟨a1,a2,a3,a4⟩:=thaw_view hn y1 x' r' t1
      exact⟨_,o,vs,a1,nf,q2 v _ d _ (x1.trans a2) a4 (rd'.ext0 a3) t2⟩
    ·exact z.elim
   | cons _ _=>exact absurd h Bool.false_ne_true
  | _=>exact absurd h Bool.false_ne_true
 | .while_ t b,k,Z,w0,X,st,G,h=>by
  cases st with
  | While x ls els pos=>
   cases els with
   | nil=>
    change (_&&_)=true at h
    simp only[Bool.and_eq_true] at h
    obtain⟨⟨⟨h1,h2⟩,h3⟩,h4⟩:=h
    refine PS.imp (ps_while (G.po h1) ((soundE c t k Z w0 X x G h2).2 h3) (soundSs c b k Z w0 X ls G h4)) fun R σ H ⟨w,σD,M,RR,S,q,q1,q2,q3,q4⟩=>?_
    obtain⟨W,⟨m0,hm0⟩,step⟩:=q
    refine⟨fun m σ H=>∃w2 σE M2,StOk w0 w2 σE M2 σ H∧Ext w w2∧W m σE M2,⟨m0,w,σD,M,S,Ext.refl w,hm0⟩,?_⟩
    rintro m σ2 H2 ⟨w2,σE,M2,S2,x2,hW⟩
    refine⟨w2,σE,M2,_,S2,step m σE M2 hW,fun z w3 M3 x3 r3 y3=>?_⟩
    cases z with
    | false=>
     rw[if_neg Bool.false_ne_true] at y3 ⊢
     exact q1 σ2 w3 σE M3 (x2.trans x3) r3 (S2.env.ext x3) y3
    | true=>
     rw[if_pos rfl] at y3 ⊢
     have nxt:∀σ' w' σD' M',Ext w3 w'→RS w' M'→REnv w' σD' σ'→(∃m',m'<m∧W m' σD' M')→∃m',m'<m∧∃w2 σE M2,StOk w0 w2 σE M2 σ' w'.H∧Ext w w2∧W m' σE M2:=
      fun σ' w' σD' M' x' r' e' ⟨m',l',z'⟩=>⟨m',l',w',σD',M',⟨rfl,(S2.ext.trans x3).trans x',r',e'⟩,(x2.trans x3).trans x',z'⟩
     refine⟨fun σ' H'=>∃m',m'<m∧∃w2 σE M2,StOk w0 w2 σE M2 σ' H'∧Ext w w2∧W m' σE M2,fun σ' H' z=>z,?_⟩
     exact tFS_of (S2.next x3 r3) y3 nxt (fun v w' d M' x' r' rd' z'=>q2 v w' d M' ((x2.trans x3).trans x') r' rd' z') (fun σ' w' σD' M' x' r' e' z'=>q1 σ' w' σD' M' ((x2.trans x3).trans x') r' e' z') nxt
   | cons _ _=>exact absurd h Bool.false_ne_true
  | _=>exact absurd h Bool.false_ne_true
 | .raise g es,k,Z,w0,X,st,G,h=>by
  obtain⟨x,np,ls,cp,pos,rfl,hs⟩:=raise_shape h
  simp only[Bool.and_eq_true,beq_iff_eq,decide_eq_true_eq] at hs
  obtain⟨⟨⟨⟨⟨h1,h2⟩,h3⟩,h4⟩,h5⟩,h6⟩:=hs
  exact sound_raise G h1 h2 h3 h4 h5 h6 (soundEs c es k Z w0 X ls G h6).1
 | .tryN hh f es g s,k,Z,w0,X,st,G,h=>by
  obtain⟨bs,x,np,s0,ss,hp,pos,rfl,hs⟩:=tryN_shape h
  simp only[Bool.and_eq_true,beq_iff_eq] at hs
  obtain⟨⟨⟨⟨⟨h1,h2⟩,h3⟩,h4⟩,h7⟩,h8⟩:=hs
  exact sound_tryN G h1 h2 h3 h4 h7 h8 (soundSs c s)
theorem soundSs(c:Cfg):∀s:Ss,SoundSs c s
 | .nil,k,Z,w0,X,st,G,h=>by
  cases st with
  | nil=>
   refine PSs.imp pss_nil fun R σ H ⟨w,σD,M,RR,S,q,h1,_⟩=>?_
   have:=h1 σ w σD M (Ext.refl w) S.rs S.env q
   rw[S.heap] at this
   exact this
  | cons _ _=>exact absurd h Bool.false_ne_true
 | .cons s r,k,Z,w0,X,st,G,h=>by
  cases st with
  | nil=>exact absurd h Bool.false_ne_true
  | cons x xs=>
   change (_&&_)=true at h
   simp only[Bool.and_eq_true] at h
   refine PSs.imp (pss_cons (soundS c s k Z w0 X x G h.1) (soundSs c r k Z w0 X xs G h.2)) fun R σ H ⟨w,σD,M,RR,S,q,h1,h2,h3,h4⟩=>?_
   refine tFS_of S q ?_ h2 h3 h4
   intro σ' w' σD' M' x' r' e' q'
   exact tFS_of ⟨rfl,S.ext.trans x',r',e'⟩ q' (fun σ2 w2 σD2 M2 x2 r2 e2 z=>h1 σ2 w2 σD2 M2 (x'.trans x2) r2 e2 z) (h2.ext x') (fun σ2 w2 σD2 M2 x2 r2 e2 z=>h3 σ2 w2 σD2 M2 (x'.trans x2) r2 e2 z) (fun σ2 w2 σD2 M2 x2 r2 e2 z=>h4 σ2 w2 σD2 M2 (x'.trans x2) r2 e2 z)
end
theorem FnOk.cx{P:Program}{w:World}{K:PySem.W.Frag}{mg:Str→Option Value}{base:Heap}{CX:CXT}{k:Nat}{f:Addr}{fd:FuncData}{ps:List Str}{sp:Sp}(F:FnOk P w K mg base CX0 k f fd ps sp):FnOk P w K mg base CX k f fd ps sp:=
 ⟨F.len,fun A outer s H args us vs Q E hr he hb hv hs=>codeAny_mono (F.run A outer s H args us vs Q E hr he hb hv hs) fun r s' h=>by
  cases r with
  | error e=>exact False.elim h
  | ok fl=>cases fl<;>exact h⟩
structure Prg(P:Program)(w:World)(K:PySem.W.Frag)(mg:Str→Option Value)(base:Heap)(c:Cfg)(FN GN BN:List Str)(lv:Nat):Prop where
 hK:c.K=K
 fns:∀(f:Nat) (x:Str) (sp:DSp),FN[f]?=some x→c.Γ[f]?=some sp→∃(kk:Nat) (f:Addr) (fd:FuncData) (ps:List Str) (ds:List Value) (dvs:List V) (dD:List D) (sp0:DSp),FnOk P w K mg base (CX1 P w) kk f fd ps (spF K sp0)∧kk≤lv∧mg x=some (.ref f)∧PySem.W.keepIn K (.ref f)=true∧
  Binds K fd ps ds∧Vals dvs ds∧(∀w:Vw,w.K=K→RDs w dD dvs)∧∀as M Q Z,sp as M Q Z→sp0 (as++dD) M Q Z
 flen:FN.length=c.Γ.length
 glb:∀(g:Nat) (x:Str) (d:D),GN[g]?=some x→c.G[g]?=some d→∃v u,mg x=some u∧RelV v u∧∀w:Vw,w.K=K→RD w d v
 blt:∀x,x∈BN→mg x=none
def start0(N:List Str)(ds:List D):DEnv:=ds.map some++List.replicate (N.length - ds.length) none
theorem start_rel{w:Vw}{N:List Str}{ds:List D}{vs:List V}(r:RDs w ds vs):REnv w (start0 N ds) (L2.start N vs):=by
 refine⟨by unfold start0 L2.start;simp[r.length],fun i d e=>?_⟩
 unfold start0 at e
 unfold L2.start
 by_cases hi:i<ds.length
 ·rw[List.getElem?_append_left (by simpa using hi),List.getElem?_map] at e
  rw[List.getElem?_append_left (by rw[List.length_map,r.length];exact hi),List.getElem?_map]
  cases hd:ds[i]? with
  | none=>rw[hd] at e;cases e
  | some d'=>
   rw[hd] at e
   have e':d'=d:=by simpa using e
   subst e'
   obtain⟨v,q1,q2⟩:=r.get hd
   exact⟨v,by rw[q1];rfl,q2⟩
 ·rw[List.getElem?_append_right (by simpa using hi)] at e
  have:=List.getElem?_eq_some_iff.mp e
  simp at this
section
variable{P:Program}{w:World}{K:PySem.W.Frag}{mg:Str→Option Value}{base:Heap}{c:Cfg}{FN GN BN:List Str}{lv:Nat}{x qual:Str}{st:Stmt}{f:Addr}{fd:FuncData}{N ps:List Str}
abbrev ck0(N:List Str)(st:Stmt)(FN GN BN:List Str):Ck:=⟨N,defScope st,FN,GN,BN,true,true,true,[],true,[]⟩
abbrev ck1(rs:List Nat)(N:List Str)(st:Stmt)(FN GN BN:List Str):Ck:=⟨N,defScope st,FN,GN,BN,true,true,true,rs,true,[]⟩
theorem fn0(Pr:Prg P w K mg base c FN GN BN lv)(F:Fun K x qual st f fd)(S:FnScope N ps (defScope st)){body:Ss}(hc:chkSs (ck0 N st FN GN BN) body (defBody st)=true){sp:DSp}(hl:∀ds M Q Z,sp ds M Q Z→ds.length=ps.length)
  (hb:∀ds M Q Z,sp ds M Q Z→tss c noX body {nx:=fun _ M=>Q .non M,rt:=Q} (start0 N ds) M):FnOk P w K mg base (CX1 P w) (lv+1) f fd ps (spF K sp):=by
 refine FnOk.cx (F.ok S (fun vs H Q E h=>?_) fun cdv A outer s H vs Q E hr h=>?_)
 ·obtain⟨w,ds,M,QD,Z,_,_,_,r,h,_⟩:=h
  rw[r.length];exact hl _ _ _ _ h
 obtain⟨w',ds,M,QD,Z,hK',rfl,R,r,h,a,xk⟩:=h
 have G:Good c (ck0 N st FN GN BN) noX w' (cxOf CX0 P w K mg base N qual (defScope st) f cdv A outer s w'.H E).nox:=
  {hK:=Pr.hK.symm
   wK:=hK'.trans Pr.hK.symm
   N:=rfl
   nd:=S.nd
   sc:=rfl
   calm:=fun _=>rfl
   units:=hr.units
   fns:=fun _ f x sp h1 h2=>by
    obtain⟨kk,f,fd,ps,ds,dvs,dD,sp0,F,hk,h⟩:=Pr.fns f x sp h1 h2
    exact⟨kk,f,fd,ps,ds,dvs,dD,sp0,F,hr.mono hk,h⟩
   flen:=Pr.flen
   glb:=Pr.glb
   blt:=Pr.blt
   exc:=⟨E0,fun _ _ _ _ _ _ _ h=>by
    obtain⟨_,_,_,_,_,_,_,_,_,_,_,_,_,_,_,h⟩:=h
    exact h.elim,fun cls dd H' h=>by
    obtain⟨_,_,_,_,_,_,_,_,_,_,_,_,_,h⟩:=h
    exact h.elim⟩
   stk:=fun _=>⟨rfl,rfl⟩
   rai:=fun _ h=>absurd h Bool.false_ne_true
   po:=fun _=>PassesOwn.never
   fnc:=fun _ _=>rfl
   fno:=fun _ h=>by cases h}
 refine⟨_,soundSs c body _ _ w' _ _ G hc,w',start0 N ds,M,{nx:=fun _ M=>QD .non M,rt:=QD},⟨rfl,Ext.refl w',R,start_rel r⟩,hb _ _ _ _ h,?_,a,?_,?_⟩
 ·exact fun σ' w2 σD' M' x' r' e' q'=>a .non w2 .non M' x' r' (rd_non.mpr rfl) q'
 ·exact fun σ' w2 σD' M' x' r' e' q'=>q'.elim
 ·exact fun σ' w2 σD' M' x' r' e' q'=>q'.elim
def PrgR(P:Program)(w:World)(K:PySem.W.Frag)(mg:Str→Option Value)(base:Heap)(c:Cfg)(rs:List Nat)(lv:Nat):Prop:=∀g:Nat,rs.contains g=true→∀C:Addr,c.G[g]?=some (.cls C)→∃(kk:Nat) (f:Addr) (fd:FuncData),ExcMk K C f∧FnOk P w K mg base CX0 kk f fd ["self","row"] (spInit K)∧kk+1≤lv∧
 Binds K fd ["self","row"] [.none]∧Binds K fd ["self","row"] []∧ExcSet K C "row"
theorem fn1(Pr:Prg P w K mg base c FN GN BN lv){rs:List Nat}(Rr:PrgR P w K mg base c rs lv)(F:Fun K x qual st f fd)(S:FnScope N ps (defScope st)){body:Ss}(hc:chkSs (ck1 rs N st FN GN BN) body (defBody st)=true){sp:DSp}(hl:∀ds M Q Z,sp ds M Q Z→ds.length=ps.length)
  (hb:∀ds M Q Z,sp ds M Q Z→tss c Z body {nx:=fun _ M=>Q .non M,rt:=Q} (start0 N ds) M):FnOk P w K mg base (CX1 P w) (lv+1) f fd ps (spF K sp):=by
 refine fun_ok1 F S (fun vs H Q E h=>?_) fun cdv A outer s H vs Q E hr h=>?_
 ·obtain⟨w,ds,M,QD,Z,_,_,_,r,h,_⟩:=h
  rw[r.length];exact hl _ _ _ _ h
 obtain⟨w',ds,M,QD,Z,hK',rfl,R,r,h,a,xk⟩:=h
 have G:Good c (ck1 rs N st FN GN BN) Z w' (cxOf (CX1 P w) P w K mg base N qual (defScope st) f cdv A outer s w'.H E):=
  {hK:=Pr.hK.symm
   wK:=hK'.trans Pr.hK.symm
   N:=rfl
   nd:=S.nd
   sc:=rfl
   calm:=fun _=>rfl
   units:=hr.units
   fns:=fun _ f x sp h1 h2=>by
    obtain⟨kk,f,fd,ps,ds,dvs,dD,sp0,F,hk,h⟩:=Pr.fns f x sp h1 h2
    exact⟨kk,f,fd,ps,ds,dvs,dD,sp0,F,hr.mono hk,h⟩
   flen:=Pr.flen
   glb:=Pr.glb
   blt:=Pr.blt
   exc:=⟨E,pass1 leaves_of,xk⟩
   stk:=fun _=>⟨rfl,rfl⟩
   rai:=fun g hm=>⟨⟨E,leaves_of,xk⟩,fun C hg=>by
    obtain⟨kk,f,fd,h1,h2,h3,h4,h5,h6⟩:=Rr g hm C hg
    exact⟨kk,f,fd,h1,h2,hr.mono h3,h4,h5,h6⟩⟩
   po:=fun _=>PassesOwn.leaving
   fnc:=fun _ _=>rfl
   fno:=fun _ h=>by cases h}
 refine⟨_,soundSs c body _ _ w' _ _ G hc,w',start0 N ds,M,{nx:=fun _ M=>QD .non M,rt:=QD},⟨rfl,Ext.refl w',R,start_rel r⟩,hb _ _ _ _ h,?_,a,?_,?_⟩
 ·exact fun σ' w2 σD' M' x' r' e' q'=>a .non w2 .non M' x' r' (rd_non.mpr rfl) q'
 ·exact fun σ' w2 σD' M' x' r' e' q'=>q'.elim
 ·exact fun σ' w2 σD' M' x' r' e' q'=>q'.elim
end
def spLaw:DSp:=fun ds M Q _=>∃ns:List Int,ds=[.ref 0]∧M=[.frz (ns.map .int)]∧ns.length≤63∧(∀i∈ns,Bits bigN i)∧∀M',Q (.bl true) M'
theorem rds_ints(w:Vw):∀ns:List Int,RDs w (ns.map .int) (ns.map V.int)
 | []=>RDs.nil w
 | _::r=>RDs.cons (rd_int.mpr rfl) (rds_ints w r)
theorem law_walk{l:PySem.W.OpenLaw}{k:Nat}{q:Program}{loose:List Str}{XP:(Str→Option Value)→Heap→Prop}{YP:World→Heap→Prop}{d:DefRec}{K:Params→PySem.W.Frag}{x:Str}(hn:l.most=some 63)(hdf:d.params.defaults=[])(hr:Room k callerA)
  (hY:∀(w:World) (h:Heap),YP w h→(K w.params).In h)
  (F:∀(w:World) (mg:Str→Option Value) (fa:Addr) (h:Heap),(K w.params).In h→h.Ns mainGlobals mg→mg d.name=some (.ref fa)→
   ∃fd:FuncData,(∀(s:Shared) (u:Value),BindsTo s fd ⟨[u],[]⟩ [(x,u)])∧∀base:Heap,(K w.params).In base→base.Ns mainGlobals mg→FnOk l.prog w (K w.params) mg base (CX1 l.prog w) k fa fd [x] (spF (K w.params) spLaw)):
  PySem.W.WalkO q loose XP YP l.row.toRowW d [] (fun f vs=>PySem.call f vs):=by
 refine walk_B (n:=63) (k:=k) (x:=x) (CX:=fun w=>CX1 l.prog w) (sp:=fun w=>spF (K w.params) spLaw) hn (by decide) hdf hr hY F (fun w H a ns hl hb hO hS=>?_) fun w H s e s' h=>?_
 ·have hF:SqF (K w.params) H a (ns.map V.int):=by
   rcases hS with(h | ⟨o,h⟩) | h
   ·rcases hO a with z | ⟨o,xs,z⟩
    ·rw[z] at h;cases h
    ·rw[z] at h;cases h
   ·exact .inl ⟨o,h⟩
   ·exact .inr (.inr h)
  refine⟨⟨K w.params,H,fun _=>a,1⟩,[.ref 0],[.frz (ns.map .int)],fun d _=>d= .bl true,noX,rfl,rfl,⟨rfl,fun i j ci cj ei ej mi mj _=>?_,fun i c' e=>?_⟩,RDs.cons (rd_ref.mpr ⟨Nat.one_pos,rfl⟩) (RDs.nil _),⟨ns,rfl,rfl,hl,hb,fun _=>rfl⟩,fun v w' d M' _ _ rd e=>?_,fun cls dd H' h=>?_⟩
  ·have h1:=(List.getElem?_eq_some_iff.mp ei).1
   have h2:=(List.getElem?_eq_some_iff.mp ej).1
   simp at h1 h2
   omega
  ·have h1:=(List.getElem?_eq_some_iff.mp e).1
   have hi:i=0:=by simp at h1;exact h1
   subst hi
   simp at e
   subst e
   exact⟨_,hF,rds_ints _ ns⟩
  ·subst e
   exact rd_bl.mp rd
  ·obtain⟨_,_,_,_,_,_,_,_,_,_,_,_,_,h⟩:=h
   exact h.elim
 ·obtain⟨_,_,_,_,_,_,_,_,_,_,_,_,_,_,_,h⟩:=h
  exact h.elim
def bot:DSp:=fun _ _ _ _=>False
def Ent(K:PySem.W.Frag)(mg:Str→Option Value)(x:Str):Prop:=∃(f:Addr) (fd:FuncData) (ps:List Str),mg x=some (.ref f)∧PySem.W.keepIn K (.ref f)=true∧Binds K fd ps []
section
variable{P:Program}{w:World}{K:PySem.W.Frag}{mg:Str→Option Value}{base:Heap}{Γ:List DSp}{G:List D}{FN GN BN:List Str}{lv:Nat}
theorem Prg.zero(hF:∀x∈FN,Ent K mg x)(hl:FN.length=Γ.length)(hb:∀sp∈Γ,sp=bot)(hg:∀(g:Nat) (x:Str) (d:D),GN[g]?=some x→G[g]?=some d→∃v u,mg x=some u∧RelV v u∧∀w:Vw,w.K=K→RD w d v)(hB:∀x∈BN,mg x=none):
  Prg P w K mg base ⟨K,Γ,G⟩ FN GN BN 0 where
 hK:=rfl
 fns:=fun f x sp h1 h2=>by
  obtain⟨fa,fd,ps,e1,e2,e3⟩:=hF x (List.mem_of_getElem? h1)
  have hs:sp=bot:=hb sp (List.mem_of_getElem? h2)
  subst hs
  have no:∀vs H Q E,¬spF K bot vs H Q E:=fun vs H Q E ⟨_,_,_,_,_,_,_,_,_,h,_⟩=>h
  exact⟨0,fa,fd,ps,[],[],[],bot,⟨fun vs H Q E h=>absurd h (no vs H Q E),fun A outer s H args us vs Q E _ _ _ _ h=>absurd h (no vs H Q E)⟩,Nat.le_refl _,e1,e2,e3,.nil,fun w _=>RDs.nil w,fun _ _ _ _ h=>h.elim⟩
 flen:=hl
 glb:=hg
 blt:=hB
theorem Prg.addD(Pr:Prg P w K mg base ⟨K,Γ,G⟩ FN GN BN lv)(n:Nat){x:Str}{sp0:DSp}{kk lv':Nat}{f:Addr}{fd:FuncData}{ps:List Str}{ds:List Value}{dvs:List V}{dD:List D}(hx:FN[n]?=some x)(F:FnOk P w K mg base (CX1 P w) kk f fd ps (spF K sp0))(h1:kk≤lv')(h2:lv≤lv')(hm:mg x=some (.ref f))(hk:PySem.W.keepIn K (.ref f)=true)(hb:Binds K fd ps ds)
  (hv:Vals dvs ds) (hd:∀w:Vw,w.K=K→RDs w dD dvs):Prg P w K mg base ⟨K,Γ.set n (fun as M Q Z=>sp0 (as++dD) M Q Z),G⟩ FN GN BN lv' where
 hK:=rfl
 fns:=fun m y sp' e1 e2=>by
  by_cases hmn:n=m
  ·subst hmn
   rw[hx] at e1
   cases e1
   have hl:n<Γ.length:=by rw[←Pr.flen];exact(List.getElem?_eq_some_iff.mp hx).1
   have e2:(Γ.set n (fun as M Q Z=>sp0 (as++dD) M Q Z))[n]?=some sp':=e2
   rw[List.getElem?_set_self hl] at e2
   cases e2
   exact⟨kk,f,fd,ps,ds,dvs,dD,sp0,F,h1,hm,hk,hb,hv,hd,fun as M Q Z h=>h⟩
  ·have e2:(Γ.set n (fun as M Q Z=>sp0 (as++dD) M Q Z))[m]?=some sp':=e2
   rw[List.getElem?_set_ne hmn] at e2
   obtain⟨kk,f,fd,ps,ds,dvs,dD,sp1,F,hk,h⟩:=Pr.fns m y sp' e1 e2
   exact⟨kk,f,fd,ps,ds,dvs,dD,sp1,F,Nat.le_trans hk h2,h⟩
 flen:=by rw[Pr.flen];simp
 glb:=Pr.glb
 blt:=Pr.blt
theorem Prg.add(Pr:Prg P w K mg base ⟨K,Γ,G⟩ FN GN BN lv)(n:Nat){x:Str}{sp:DSp}{kk lv':Nat}{f:Addr}{fd:FuncData}{ps:List Str}(hx:FN[n]?=some x)(F:FnOk P w K mg base (CX1 P w) kk f fd ps (spF K sp))(h1:kk≤lv')(h2:lv≤lv')(hm:mg x=some (.ref f))(hk:PySem.W.keepIn K (.ref f)=true)(hb:Binds K fd ps []):
  Prg P w K mg base ⟨K,Γ.set n sp,G⟩ FN GN BN lv' where
 hK:=rfl
 fns:=fun m y sp' e1 e2=>by
  by_cases hmn:n=m
  ·subst hmn
   rw[hx] at e1
   cases e1
   have hl:n<Γ.length:=by rw[←Pr.flen];exact(List.getElem?_eq_some_iff.mp hx).1
   have e2:(Γ.set n sp)[n]?=some sp':=e2
   rw[List.getElem?_set_self hl] at e2
   cases e2
   exact⟨kk,f,fd,ps,[],[],[],sp,F,h1,hm,hk,hb,.nil,fun w _=>RDs.nil w,fun as M Q Z h=>by rw[List.append_nil];exact h⟩
  ·have e2:(Γ.set n sp)[m]?=some sp':=e2
   rw[List.getElem?_set_ne hmn] at e2
   obtain⟨kk,f,fd,ps,ds,dvs,dD,sp0,F,hk,h⟩:=Pr.fns m y sp' e1 e2
   exact⟨kk,f,fd,ps,ds,dvs,dD,sp0,F,Nat.le_trans hk h2,h⟩
 flen:=by rw[Pr.flen];simp
 glb:=Pr.glb
 blt:=Pr.blt
end
theorem readL_app{M N:Store}{a:Nat}{xs:List D}(h:readL M a=some xs):readL (M++N) a=some xs:=by
 unfold readL at *
 have ha:a<M.length:=by
  cases e:M[a]? with
  | none=>rw[e] at h;cases h
  | some c=>exact(List.getElem?_eq_some_iff.mp e).1
 rw[List.getElem?_append_left ha];exact h
theorem readW_app{M N:Store}{a:Nat}{xs:List D}(h:readW M a=some xs):readW (M++N) a=some xs:=by
 unfold readW at *
 have ha:a<M.length:=by
  cases e:M[a]? with
  | none=>rw[e] at h;cases h
  | some c=>exact(List.getElem?_eq_some_iff.mp e).1
 rw[List.getElem?_append_left ha];exact h
theorem readD_app{M N:Store}{a:Nat}{xs:List (Key×D)}(h:readD M a=some xs):readD (M++N) a=some xs:=by
 unfold readD at *
 have ha:a<M.length:=by
  cases e:M[a]? with
  | none=>rw[e] at h;cases h
  | some c=>exact(List.getElem?_eq_some_iff.mp e).1
 rw[List.getElem?_append_left ha];exact h
theorem at_end(M:Store)(c:Cell)(N:Store):(M++c::N)[M.length]?=some c:=by simp
theorem at_endk(M N:Store)(k:Nat):(M++N)[M.length+k]?=N[k]?:=by rw[List.getElem?_append_right (by omega)];congr 1;omega
theorem readL_end(M:Store)(xs:List D)(N:Store):readL (M++ .lst xs::N) M.length=some xs:=by unfold readL;rw[at_end]
theorem readW_end(M:Store)(xs:List D)(N:Store):readW (M++ .lst xs::N) M.length=some xs:=by unfold readW;rw[at_end]
theorem readD_end(M:Store)(xs:List (Key×D))(N:Store):readD (M++ .dct xs::N) M.length=some xs:=by unfold readD;rw[at_end]
theorem readW_endk(M N:Store)(k:Nat):readW (M++N) (M.length+k)=readW N k:=by unfold readW;rw[at_endk]
theorem readD_endk(M N:Store)(k:Nat):readD (M++N) (M.length+k)=readD N k:=by unfold readD;rw[at_endk]
theorem set_end(M:Store)(c d:Cell)(N:Store):(M++c::N).set M.length d=M++d::N:=by
 rw[List.set_append_right _ _ (Nat.le_refl _)];simp
theorem set_endk(M N:Store)(k:Nat)(d:Cell):(M++N).set (M.length+k) d=M++N.set k d:=by
 rw[List.set_append_right _ _ (by omega)];congr 2;omega
theorem readW_readL{M:Store}{n:Nat}{xs:List D}(h:readW M n=some xs):readL M n=some xs:=readW_L h
theorem readL_set_ne{M:Store}{a b:Nat}{c:Cell}(h:b≠a):readL (M.set b c) a=readL M a:=by unfold readL;rw[List.getElem?_set_ne h]
theorem readW_set_ne{M:Store}{a b:Nat}{c:Cell}(h:b≠a):readW (M.set b c) a=readW M a:=by unfold readW;rw[List.getElem?_set_ne h]
theorem readD_set_ne{M:Store}{a b:Nat}{c:Cell}(h:b≠a):readD (M.set b c) a=readD M a:=by unfold readD;rw[List.getElem?_set_ne h]
theorem read_lt{M:Store}{n:Nat}{xs:List D}(h:readL M n=some xs):n<M.length:=by
 unfold readL at h
 cases e:M[n]? with
 | none=>rw[e] at h;cases h
 | some c=>exact(List.getElem?_eq_some_iff.mp e).1
theorem readD_lt{M:Store}{n:Nat}{xs:List (Key×D)}(h:readD M n=some xs):n<M.length:=by
 unfold readD at h
 cases e:M[n]? with
 | none=>rw[e] at h;cases h
 | some c=>exact(List.getElem?_eq_some_iff.mp e).1
theorem intsD_get{lo:Int}{n i:Nat}(h:i<n):(intsD lo n)[i]?=some (.int (lo+i)):=by
 unfold intsD;rw[List.getElem?_map,List.getElem?_range h];rfl
theorem intsD_length(lo:Int)(n:Nat):(intsD lo n).length=n:=by unfold intsD;simp
theorem forD_by{own:Own}{xs:List D}{tg:List Nat}{body:DS}{R:DEnds}{σ:DEnv}{M:Store}(I:Nat→DEnv→Store→Prop)(h0:I 0 σ M)(hs:∀i σ M,i≤xs.length→I i σ M→still own xs M)
  (step:∀(i:Nat) (d:D) σ M (C:DEnv→Store→Prop),xs[i]?=some d→I i σ M→(∀σ2 M2,I (i+1) σ2 M2→C σ2 M2)→tgD tg d σ fun σ'=>body {nx:=C,rt:=R.rt,bk:=R.nx,ct:=C} σ' M)
  (fin:∀σ M,I xs.length σ M→R.nx σ M):forD own xs tg body xs R σ M:=by
 have key:∀(j:Nat) σ M,j≤xs.length→I (xs.length - j) σ M→forD own xs tg body (xs.drop (xs.length - j)) R σ M:=by
  intro j
  induction j with
  | zero=>
   intro σ M _ h
   rw[Nat.sub_zero] at h ⊢
   rw[List.drop_length]
   exact⟨hs _ σ M (Nat.le_refl _) h,fin σ M h⟩
  | succ j ih=>
   intro σ M hj h
   have hi:xs.length - (j+1)<xs.length:=by omega
   have e:xs.length - (j+1)+1=xs.length - j:=by omega
   rw[List.drop_eq_getElem_cons hi]
   refine⟨hs _ σ M (by omega) h,step _ _ σ M _ (List.getElem?_eq_getElem hi) h fun σ2 M2 h2=>?_⟩
   rw[e] at h2 ⊢
   exact ih σ2 M2 (by omega) h2
 have:=key xs.length σ M (Nat.le_refl _) (by rw[Nat.sub_self];exact h0)
 rw[Nat.sub_self] at this
 exact this
theorem forD_rng{lo:Int}{n:Nat}{tg:List Nat}{body:DS}{R:DEnds}{σ:DEnv}{M:Store}(I:Nat→DEnv→Store→Prop)(h0:I 0 σ M)
  (step:∀(i:Nat) σ M (C:DEnv→Store→Prop),i<n→I i σ M→(∀σ2 M2,I (i+1) σ2 M2→C σ2 M2)→tgD tg (.int (lo+i)) σ fun σ'=>body {nx:=C,rt:=R.rt,bk:=R.nx,ct:=C} σ' M)
  (fin:∀σ M,I n σ M→R.nx σ M):forD .no (intsD lo n) tg body (intsD lo n) R σ M:=by
 refine forD_by I h0 (fun _ _ _ _ _=>trivial) (fun i d σ M C hd hI hC=>?_) (fun σ M h=>fin σ M (by rw[intsD_length] at h;exact h))
 have hi:i<n:=by
  have:=(List.getElem?_eq_some_iff.mp hd).1
  rwa[intsD_length] at this
 rw[intsD_get hi] at hd
 cases hd
 exact step i σ M C hi hI hC
theorem compD_by{own:Own}{xs:List D}{tg:List Nat}{cd:DT}{el:DE}{z:Nat}{Q:Store→Prop}{σ:DEnv}{M:Store}(I:Nat→DEnv→Store→Prop)(h0:I 0 σ M)(hs:∀i σ M,i≤xs.length→I i σ M→still own xs M)
  (step:∀(i:Nat) (d:D) σ M (C:DEnv→Store→Prop),xs[i]?=some d→I i σ M→(∀σ2 M2,I (i+1) σ2 M2→C σ2 M2)→tgD tg d σ fun σ'=>cd σ' M fun b M1=>if b=true then
   el σ' M1 fun y M2=>∃acc,readW M2 z=some acc∧acc.length<sizeLine∧C σ' (M2.set z (.lst (acc++[y]))) else C σ' M1)
  (fin:∀σ M,I xs.length σ M→Q M):compD own xs tg cd el z xs σ M Q:=by
 have key:∀(j:Nat) σ M,j≤xs.length→I (xs.length - j) σ M→compD own xs tg cd el z (xs.drop (xs.length - j)) σ M Q:=by
  intro j
  induction j with
  | zero=>
   intro σ M _ h
   rw[Nat.sub_zero] at h ⊢
   rw[List.drop_length]
   exact⟨hs _ σ M (Nat.le_refl _) h,fin σ M h⟩
  | succ j ih=>
   intro σ M hj h
   have hi:xs.length - (j+1)<xs.length:=by omega
   have e:xs.length - (j+1)+1=xs.length - j:=by omega
   rw[List.drop_eq_getElem_cons hi]
   refine⟨hs _ σ M (by omega) h,step _ _ σ M (fun σ2 M2=>compD own xs tg cd el z (xs.drop (xs.length - (j+1)+1)) σ2 M2 Q) (List.getElem?_eq_getElem hi) h fun σ2 M2 h2=>?_⟩
   rw[e] at h2 ⊢
   exact ih σ2 M2 (by omega) h2
 have:=key xs.length σ M (Nat.le_refl _) (by rw[Nat.sub_self];exact h0)
 rw[Nat.sub_self] at this
 exact this
theorem mulR{i j:Int}(h1:-(2 ^ 64)<j)(h2:j<2 ^ 64):IntMulOk i j:=CMul.ok (.inr ⟨h1,h2⟩)
theorem mulL{i j:Int}(h1:-(2 ^ 64)<i)(h2:i<2 ^ 64):IntMulOk i j:=CMul.ok (.inl ⟨h1,h2⟩)
theorem cdiv_lit{i j:Int}(h1:0<j)(h2:j<2 ^ 64):CDivB i j:=by
 refine⟨by omega,?_⟩
 have h3:j.natAbs<2 ^ 64:=by omega
 exact Nat.lt_trans (log2_lt_of h3 (by decide)) (by decide)
theorem sizeLine_ge{n:Nat}(h:n≤16000000):n≤sizeLine:=by rw[sizeLine_eq];omega
theorem sizeLine_gt{n:Nat}(h:n≤16000000):n<sizeLine:=by rw[sizeLine_eq];omega
section
variable{M:Store}{Q:DK}{B:Bool→Prop}{i j:Int}{a b:Str}{p q:Bool}{xs ys:List D}{n m:Nat}{K:PySem.W.Frag}
theorem op_add_i:opD .add (.int i) (.int j) M Q=Q (.int (i+j)) M:=rfl
theorem op_add_s:opD .add (.str a) (.str b) M Q=(a.length+b.length≤sizeLine∧Q (.str (a++b)) M):=rfl
theorem op_add_t:opD .add (.tup xs) (.tup ys) M Q=(xs≠[]∧xs.length+ys.length≤sizeLine∧Q (.tup (xs++ys)) M):=rfl
theorem op_add_l:opD .add (.ref n) (.ref m) M Q=∃xs ys,readW M n=some xs∧readW M m=some ys∧xs.length+ys.length≤sizeLine∧Q (.ref M.length) (M++[.lst (xs++ys)]):=rfl
theorem op_sub_i:opD .sub (.int i) (.int j) M Q=Q (.int (i - j)) M:=rfl
theorem op_mul_i:opD .mul (.int i) (.int j) M Q=(IntMulOk i j∧Q (.int (i * j)) M):=rfl
theorem op_mul_l:opD .mul (.ref n) (.int i) M Q=∃xs,readW M n=some xs∧0≤i∧i<2 ^ 62∧xs.length * i.toNat≤sizeLine∧Q (.ref M.length) (M++[.lst (List.replicate i.toNat xs).flatten]):=rfl
theorem op_fdiv_i:opD .fdiv (.int i) (.int j) M Q=(CDivB i j∧Q (.int (qdiv i j)) M):=rfl
theorem op_mod_i:opD .mod (.int i) (.int j) M Q=(j≠0∧Q (.int (qmod i j)) M):=rfl
theorem op_pow_i:opD .pow (.int i) (.int j) M Q=(CPow i j∧Q (.int (i ^ j.toNat)) M):=rfl
theorem op_and_i:opD .band (.int i) (.int j) M Q=Q (.int (Builtin.bitAnd i j)) M:=rfl
theorem op_xor_i:opD .bxor (.int i) (.int j) M Q=Q (.int (Builtin.bitXor i j)) M:=rfl
theorem cm_lt_i:cmD M .lt (.int i) (.int j) B=B (decide (i<j)):=rfl
theorem cm_le_i:cmD M .le (.int i) (.int j) B=B (decide (i≤j)):=rfl
theorem cm_gt_i:cmD M .gt (.int i) (.int j) B=B (decide (j<i)):=rfl
theorem cm_ge_i:cmD M .ge (.int i) (.int j) B=B (decide (j≤i)):=rfl
theorem cm_eq{x y:D}:cmD M .eq x y B=eqD M x y B:=rfl
theorem cm_ne{x y:D}:cmD M .ne x y B=eqD M x y fun b=>B (!b):=rfl
theorem cm_in{x y:D}:cmD M .isin x y B=inQ M x y B:=rfl
theorem cm_notin{x y:D}:cmD M .notin x y B=inQ M x y fun b=>B (!b):=rfl
theorem cm_is_n:cmD M .is .non .non B=B true:=rfl
theorem cm_is_i:cmD M .is (.int i) .non B=B false:=rfl
theorem cm_is_s:cmD M .is (.str a) .non B=B false:=rfl
theorem cm_is_b:cmD M .is (.bl p) .non B=B false:=rfl
theorem cm_is_t:cmD M .is (.tup xs) .non B=B false:=rfl
theorem cm_is_r:cmD M .is (.ref n) .non B=B false:=rfl
theorem eq_i:eqD M (.int i) (.int j) B=B (decide (i=j)):=rfl
theorem eq_s:eqD M (.str a) (.str b) B=B (decide (a=b)):=rfl
theorem eq_b:eqD M (.bl p) (.bl q) B=B (decide (p=q)):=rfl
theorem eq_nn:eqD M .non .non B=B true:=rfl
theorem eq_is:eqD M (.int i) (.str b) B=B false:=rfl
theorem eq_si:eqD M (.str b) (.int i) B=B false:=rfl
theorem tru_b:truD M (.bl p) B=B p:=rfl
theorem tru_i:truD M (.int i) B=B (i !=0):=rfl
theorem tru_n:truD M .non B=B false:=rfl
theorem tru_t:truD M (.tup xs) B=B (!xs.isEmpty):=rfl
theorem ix_t{F:D→Prop}:ixD M (.tup xs) (.int i) F=∃d,atI xs i=some d∧F d:=rfl
theorem ix_g{F:D→Prop}:ixD M (.gtup xs) (.int i) F=∃d,atI xs i=some d∧F d:=rfl
theorem ix_s{F:D→Prop}:ixD M (.str a) (.int i) F=(a.length≤sizeLine∧∃c,atI a.cps.toList i=some c∧F (.str ⟨#[c]⟩)):=rfl
theorem ix_l{F:D→Prop}{k:Nat}(h:readL M n=some xs){d:D}(hd:xs[k]?=some d)(hF:F d):ixD M (.ref n) (.int k) F:= .inl ⟨xs,k,d,rfl,h,atI_nat hd,hF⟩
theorem ix_d{F:D→Prop}{kvs:List (Key×D)}{k:D}{y:Key}(h:readD M n=some kvs)(hk:keyD k=some y){d:D}(hd:valD kvs y=some d)(hF:F d):ixD M (.ref n) k F:= .inr ⟨kvs,y,d,readD_F h,hk,hd,hF⟩
theorem ix_f{F:D→Prop}{kvs:List (Key×D)}{k:D}{y:Key}(h:M[n]?=some (.fdc kvs))(hk:keyD k=some y){d:D}(hd:valD kvs y=some d)(hF:F d):ixD M (.ref n) k F:= .inr ⟨kvs,y,d,by unfold readF;rw[h],hk,hd,hF⟩
theorem sl_s{lo hi:Option Int}:slD (.str a) lo hi M Q=(a.length≤sizeLine∧Q (.str (Txt.slice a lo hi)) M):=rfl
theorem sl_t{lo hi:Option Int}:slD (.tup xs) lo hi M Q=(¬(HT.sIx xs.length 0 lo=0∧HT.sIx xs.length xs.length hi=xs.length)∧Q (.tup (cutD xs lo hi)) M):=rfl
theorem sl_l{lo hi:Option Int}:slD (.ref n) lo hi M Q=∃xs,readL M n=some xs∧Q (.ref M.length) (M++[.lst (cutD xs lo hi)]):=rfl
def tyNon:Ty→Bool:=fun _=>false
def tyBl:Ty→Bool
 | .bool=>true | .int=>true | _=>false
def tyInt:Ty→Bool
 | .int=>true | _=>false
def tyStr:Ty→Bool
 | .str=>true | _=>false
def tyTup:Ty→Bool
 | .tuple=>true | _=>false
def tyLst:Ty→Bool
 | .list=>true | _=>false
def tyDct:Ty→Bool
 | .dict=>true | _=>false
theorem isD_of{d:D}{t:Ty}{s:String}{v:Bool}(hd:∀e C dx r,d≠ .exn e C dx r)(h1:tyD M d=some s)(h2:PySem.W.kitOne K (.type s) (.type (tyName t))=some v):isD K M d (.ty (tyName t)) B=B v:=by
 have:isD K M d (.ty (tyName t)) B=∃t' b,tyD M d=some t'∧PySem.W.kitOne K (.type t') (.type (tyName t))=some b∧B b:=by
  cases d<;>first | rfl | exact absurd rfl (hd _ _ _ _)
 rw[this]
 apply propext
 constructor
 ·rintro⟨t',b,e1,e2,h⟩
  rw[h1] at e1
  cases e1
  rw[h2] at e2
  cases e2
  exact h
 ·intro h;exact⟨s,v,h1,h2,h⟩
theorem is_non{t:Ty}:isD K M .non (.ty (tyName t)) B=B (tyNon t):=isD_of (fun _ _ _ _ h=>nomatch h) rfl (by cases t<;>rfl)
theorem is_bl{t:Ty}:isD K M (.bl p) (.ty (tyName t)) B=B (tyBl t):=isD_of (fun _ _ _ _ h=>nomatch h) rfl (by cases t<;>rfl)
theorem is_int{t:Ty}:isD K M (.int i) (.ty (tyName t)) B=B (tyInt t):=isD_of (fun _ _ _ _ h=>nomatch h) rfl (by cases t<;>rfl)
theorem is_str{t:Ty}:isD K M (.str a) (.ty (tyName t)) B=B (tyStr t):=isD_of (fun _ _ _ _ h=>nomatch h) rfl (by cases t<;>rfl)
theorem is_tup{t:Ty}:isD K M (.tup xs) (.ty (tyName t)) B=B (tyTup t):=isD_of (fun _ _ _ _ h=>nomatch h) rfl (by cases t<;>rfl)
theorem is_lst{t:Ty}(h:readW M n=some xs):isD K M (.ref n) (.ty (tyName t)) B=B (tyLst t):=isD_of (s:="list") (fun _ _ _ _ h=>nomatch h) (by simp only[tyD,readW_at h]) (by cases t<;>rfl)
theorem is_dct{t:Ty}{kvs:List (Key×D)}(h:readD M n=some kvs):isD K M (.ref n) (.ty (tyName t)) B=B (tyDct t):=isD_of (s:="dict") (fun _ _ _ _ h=>nomatch h) (by simp only[tyD,readD_at h]) (by cases t<;>rfl)
theorem bf_len_l(h:readL M n=some xs)(hq:Q (.int xs.length) M):bfD K .len [.ref n] M Q:= .inl ⟨xs,h,hq⟩
theorem bf_len_t:bfD K .len [.tup xs] M Q=Q (.int xs.length) M:=rfl
theorem bf_len_s:bfD K .len [.str a] M Q=(a.length≤sizeLine∧Q (.int a.length) M):=rfl
theorem bf_is{d c:D}:bfD K .isinst [d,c] M Q=isD K M d c fun b=>Q (.bl b) M:=rfl
theorem bf_list{d:D}:bfD K .list1 [d] M Q=∃xs,itemsD M d=some xs∧Q (.ref M.length) (M++[.lst xs]):=rfl
theorem bf_dict:bfD K .dict1 [.ref n] M Q=((∃xs,readD M n=some xs∧Q (.ref M.length) (M++[.dct xs]))∨(∃ps:List (Key×D),readL M n=some (pairD ps)∧ps.length<sizeLine∧Q (.ref M.length) (M++[.dct (foldD ps)]))):=rfl
theorem bf_int:bfD K .int1 [.bl p] M Q=Q (.int (if p then 1 else 0)) M:=rfl
theorem at2_xy{x y:D}{F:D→D→Prop}:at2 [x,y] F=F x y:=rfl
theorem onRef_r{F:Nat→Prop}:onRef (.ref n) F=F n:=rfl
theorem mt_append_r{d:D}:mtD .append (.ref n) [d] M Q=∃xs,readW M n=some xs∧xs.length<sizeLine∧Q .non (M.set n (.lst (xs++[d]))):=rfl
theorem mt_clearD_r:mtD .clearD (.ref n) [] M Q=∃kvs,readD M n=some kvs∧Q .non (M.set n (.dct [])):=rfl
theorem mt_get2_r{k z:D}:mtD .get2 (.ref n) [k,z] M Q=∃kvs y,readD M n=some kvs∧keyD k=some y∧Q ((valD kvs y).getD z) M:=rfl
theorem mt_clear_r:mtD .clear (.ref n) [] M Q=∃xs,readW M n=some xs∧Q .non (M.set n (.lst [])):=rfl
theorem mk_append:mtK .append (.ref n) M=((readL M n).isSome=true):=rfl
theorem mk_clear:mtK .clear (.ref n) M=((readL M n).isSome=true):=rfl
theorem mk_clearD:mtK .clearD (.ref n) M=((readD M n).isSome=true):=rfl
theorem mk_get2:mtK .get2 (.ref n) M=((readD M n).isSome=true):=rfl
theorem tg_one{k:Nat}{d:D}{σ:DEnv}{F:DEnv→Prop}:tgD [k] d σ F=F (σ.set k (some d)):=by cases d<;>rfl
theorem tg_two{k l:Nat}{d e:D}{σ:DEnv}{F:DEnv→Prop}:tgD [k,l] (.tup [d,e]) σ F=F ((σ.set k (some d)).set l (some e)):=by
 show([d,e].length=[k,l].length∧F _)=_
 simp
theorem it_r{R:Own→List D→Prop}:itD M (.ref n) R=∃xs,readL M n=some xs∧R (.lst n) xs:=rfl
theorem it_t{R:Own→List D→Prop}:itD M (.tup xs) R=R .no xs:=rfl
theorem it_g{R:Own→List D→Prop}:itD M (.gtup xs) R=R .no xs:=rfl
theorem key_i:keyD (.int i)=some (.inl i):=rfl
theorem key_s:keyD (.str a)=some (.inr a):=rfl
theorem in_ss:inQ M (.str a) (.str b) B=B (!(Builtin.Str.occurrences b a 0 b.length 1).isEmpty):=rfl
end
theorem isSome_of{α:Type}{o:Option α}{x:α}(h:o=some x):o.isSome=true:=by rw[h];rfl
abbrev vs4:List Value:=[.type "ValueError",.type "Exception",.type "BaseException",.type "object"]
theorem mro4{K:PySem.W.Frag}{C J:Addr}{nm q:Str}{N:Addr}{bs:List Value}{sn:List Str}{sub:List Value}{ab:Bool}{col:Option Bool}{dd:Option Addr}{k0 k1 k2 k3 k5:Option Value}{nw:String}
  (l:K.lookup C=some (excClassObj nm q C N bs (.ref J::vs4) true sn sub ab col dd k0 k1 k2 k3 k5 nw)):∃cd,PySem.W.clsIn K C=some cd∧cd.hasDict=true∧cd.mro=[.ref C,.ref J]++vs4:=by
 have e:PySem.W.clsIn K C=some {name:=nm,bases:=bs,mro:= .ref C::(.ref J::vs4),ns:=N,qualname:=q,hasDict:=true,slotNames:=sn,subclasses:=sub,abstract:=ab,collection:=col,hasDel:=false}:=by
  unfold PySem.W.clsIn
  rw[l]
 exact⟨_,e,rfl,rfl⟩
theorem excMk_of{K:PySem.W.Frag}{C J f:Addr}{nm q:Str}{N:Addr}{bs:List Value}{sn:List Str}{sub:List Value}{ab:Bool}{col:Option Bool}{dd:Option Addr}{k0 k1 k2 k3 k5:Option Value}
  (l:K.lookup C=some (excClassObj nm q C N bs (.ref J::vs4) true sn sub ab col dd k0 k1 k2 k3 k5 "ValueError.__new__")) (hi:PySem.W.findIn K (.ref C) "__init__"=some (some (.ref f))) (hf:PySem.W.isFn K (.ref f)=true) (hk:PySem.W.keepIn K (.ref C)=true):ExcMk K C f where
 cls:=⟨nm,q,N,bs,_,true,sn,sub,ab,col,dd,k0,k1,k2,k3,k5,l,rfl,rfl,rfl,rfl⟩
 init:=hi
 fn:=hf
 kp:=hk
theorem excSet_of{K:PySem.W.Frag}{C J:Addr}{nm q:Str}{N:Addr}{bs:List Value}{sn:List Str}{sub:List Value}{ab:Bool}{col:Option Bool}{dd:Option Addr}{k0 k1 k2 k3 k5:Option Value}{nw:String}
  (l:K.lookup C=some (excClassObj nm q C N bs (.ref J::vs4) true sn sub ab col dd k0 k1 k2 k3 k5 nw)) (h1:PySem.W.findIn K (.ref C) "row"=some none) (h2:PySem.W.findIn K (.ref C) "__setattr__"=some (some (.builtin "object.__setattr__"))):ExcSet K C "row" where
 cls:=by
  obtain⟨cd,e1,e2,e3⟩:=mro4 l
  refine⟨cd,[.ref C,.ref J],e1,e2,e3,fun v hv=>?_⟩
  simp only[List.mem_cons,List.not_mem_nil,or_false] at hv
  rcases hv with rfl | rfl
  ·exact⟨_,rfl⟩
  ·exact⟨_,rfl⟩
 no:=h1
 set:=h2
def initB(st:Stmt):Bool:=match defBody st with
 | [.Assign [.Attribute (.Name a _) b _] (.Name d _) _]=>a=="self"&&b=="row"&&d=="row"
 | _=>false
theorem init_shape{st:Stmt}(h:initB st=true):∃p1 p2 p3 p4,defBody st=[.Assign [.Attribute (.Name "self" p1) "row" p2] (.Name "row" p3) p4]:=by
 unfold initB at h
 split at h
 ·rename_i a p1 b p2 d p3 p4 e
  simp only[Bool.and_eq_true,beq_iff_eq] at h
  obtain⟨⟨rfl,rfl⟩,rfl⟩:=h
  exact⟨_,_,_,_,e⟩
 ·cases h
theorem init_ok{P:Program}{w:World}{K:PySem.W.Frag}{mg:Str→Option Value}{base:Heap}{st:Stmt}{f:Addr}{name qual:Str}{dV kV doc pm cdv ct oc:Value}{an od:Option Addr}{osl:Array (Option Value)}
  (lk:K.lookup f=some ⟨oc,od,.func (PySem.W.fnOf name qual (defArgs st) (defBody st) (defScope st) dV kV doc pm an cdv ct),osl⟩) (hcd:PySem.W.codeIn K cdv qual=true) (S:FnScope ["self","row"] ["self","row"] (defScope st)) (hb:initB st=true)
  (h1:(defScope st).names.lookup ("self":Str)=some .local) (h2:(defScope st).names.lookup ("row":Str)=some .local):
  FnOk P w K mg base CX0 1 f (PySem.W.fnOf name qual (defArgs st) (defBody st) (defScope st) dV kV doc pm an cdv ct) ["self","row"] (spInit K):=by
 refine fn_of lk hcd S (fun vs H Q E ⟨e,C,y,h,_⟩=>by rw[h];rfl) fun A outer s H vs Q E hr hsp=>?_
 obtain⟨e,C,y,rfl,q1,q2,q3⟩:=hsp
 obtain⟨p1,p2,p3,p4,eb⟩:=init_shape hb
 rw[eb]
 refine⟨_,pss_cons (ps_exc (pe_var (i:=0) rfl (.inl h1)) (pe_var (i:=1) rfl (.inl h2)) rfl) pss_nil,?_⟩
 exact⟨y,rfl,.ref e,rfl,e,C,rfl,q1,q2,fun dx hdx=>q3 dx hdx⟩
theorem Prg.up{P:Program}{w:World}{K:PySem.W.Frag}{mg:Str→Option Value}{base:Heap}{c:Cfg}{FN GN BN:List Str}{lv lv':Nat}(Pr:Prg P w K mg base c FN GN BN lv)(h:lv≤lv'):Prg P w K mg base c FN GN BN lv' where
 hK:=Pr.hK
 fns:=fun m y sp e1 e2=>by
  obtain⟨kk,f,fd,ps,ds,dvs,dD,sp0,F,hk,r⟩:=Pr.fns m y sp e1 e2
  exact⟨kk,f,fd,ps,ds,dvs,dD,sp0,F,Nat.le_trans hk h,r⟩
 flen:=Pr.flen
 glb:=Pr.glb
 blt:=Pr.blt
theorem PrgR.none{P:Program}{w:World}{K:PySem.W.Frag}{mg:Str→Option Value}{base:Heap}{c:Cfg}{lv:Nat}:PrgR P w K mg base c [] lv:=fun _ h=>absurd h Bool.false_ne_true
theorem PrgR.one{P:Program}{w:World}{K:PySem.W.Frag}{mg:Str→Option Value}{base:Heap}{c:Cfg}{lv n:Nat}{B f:Addr}{fd:FuncData}(hn:c.G[n]?=some (.cls B))(h1:ExcMk K B f)(h2:FnOk P w K mg base CX0 1 f fd ["self","row"] (spInit K))(h3:2≤lv)(h4:Binds K fd ["self","row"] [.none])(h5:Binds K fd ["self","row"] [])(h6:ExcSet K B "row"):
  PrgR P w K mg base c [n] lv:=fun g hg C hC=>by
 have e:g=n:=by simpa using hg
 subst e
 rw[hn] at hC
 cases hC
 exact⟨1,f,fd,h1,h2,h3,h4,h5,h6⟩
def Rest(c:Cfg)(X:DX)(r:Ss)(R:DEnds)(σ:DEnv)(M:Store):Prop:=tss c X r R σ M
theorem tss_nil{c:Cfg}{X:DX}{R:DEnds}{σ:DEnv}{M:Store}:tss c X .nil R σ M=R.nx σ M:=rfl
theorem tss_cons{c:Cfg}{X:DX}{s:S}{r:Ss}{R:DEnds}{σ:DEnv}{M:Store}:tss c X (.cons s r) R σ M=ts c X s {R with nx:=fun σ' M'=>Rest c X r R σ' M'} σ M:=rfl
theorem rest_of{c:Cfg}{X:DX}{r:Ss}{R:DEnds}{σ:DEnv}{M:Store}(h:tss c X r R σ M):Rest c X r R σ M:=h
theorem ofLen0{α:Type}{P:List α→Prop}(h:P [])(l:List α)(e:l.length=0):P l:=by
 cases l with
 | nil=>exact h
 | cons _ _=>cases e
theorem ofLenS{α:Type}{n:Nat}{P:List α→Prop}(h:∀a l,l.length=n→P (a::l))(l:List α)(e:l.length=n+1):P l:=by
 cases l with
 | nil=>cases e
 | cons a r=>exact h a r (Nat.succ.inj e)
theorem ofLen1{α:Type}{P:List α→Prop}(h:∀a,P [a]):∀l:List α,l.length=1→P l:=ofLenS fun a=>ofLen0 (h a)
theorem ofLen2{α:Type}{P:List α→Prop}(h:∀a b,P [a,b]):∀l:List α,l.length=2→P l:=ofLenS fun a=>ofLen1 (P:=fun l=>P (a::l)) (h a)
theorem ofLen3{α:Type}{P:List α→Prop}(h:∀a b c,P [a,b,c]):∀l:List α,l.length=3→P l:=ofLenS fun a=>ofLen2 (P:=fun l=>P (a::l)) (h a)
theorem ofLen4{α:Type}{P:List α→Prop}(h:∀a b c d,P [a,b,c,d]):∀l:List α,l.length=4→P l:=ofLenS fun a=>ofLen3 (P:=fun l=>P (a::l)) (h a)
theorem ofLen5{α:Type}{P:List α→Prop}(h:∀a b c d e,P [a,b,c,d,e]):∀l:List α,l.length=5→P l:=ofLenS fun a=>ofLen4 (P:=fun l=>P (a::l)) (h a)
theorem all_nil{α:Type}{P:α→Prop}:∀x∈([]:List α),P x:=fun _ h=>absurd h List.not_mem_nil
theorem all_cons{α:Type}{P:α→Prop}{a:α}{l:List α}(h:P a)(t:∀x∈l,P x):∀x∈a::l,P x:=fun x hx=>(List.mem_cons.mp hx).elim (fun e=>e ▸ h) (t x)
theorem bindsAll{K:PySem.W.Frag}{fd:FuncData}{ps:List Str}{n:Nat}(h:∀s:Shared,K.In s.heap→∀us:List Value,us.length=n→BindsTo s fd ⟨us,[]⟩ (ps.zip (us++[])))(e:ps.length=n):Binds K fd ps []:=fun s us KX hl=>h s KX us (by rw[List.append_nil,e] at hl;exact hl)
theorem bindsDf{K:PySem.W.Frag}{fd:FuncData}{ps:List Str}{d:Value}{n:Nat}(h:∀s:Shared,K.In s.heap→∀us:List Value,us.length=n→BindsTo s fd ⟨us,[]⟩ (ps.zip (us++[d])))(e:ps.length=n+1):Binds K fd ps [d]:=fun s us KX hl=>h s KX us (by rw[List.length_append,e] at hl;exact Nat.succ.inj hl)
end U
namespace GT
inductive Av (g:Nat→List Nat) (a:Nat):Nat→Prop
 | zero:a≠0→Av g a 0
 | step {x y:Nat}:Av g a x→y∈g x→y≠a→Av g a y
structure Num(g:Nat→List Nat)(n:Nat):Prop where
 pos:0<n
 cl:∀x,x<n→∀y∈g x,y<n
 up:∀k,k<n→k≠0→∃p,p<k∧k∈g p
structure Must(g:Nat→List Nat)(k m:Nat):Prop where
 ne:m≠k
 dom:¬Av g m k
 last:∀d,d≠k→¬Av g d k→d≤m
structure Wk(g:Nat→List Nat)(n:Nat)(B:List Nat)(T:List (Nat×Nat))(F:List Nat):Prop where
 bn:B.Nodup
 bl:∀x∈B,x<n
 z:0∈B
 mem:∀x,x∈B↔(∃s,(x,s)∈T)∨x∈F
 nd:(T.map (·.1)++F).Nodup
 first:∀p,T[0]?=some p→p.1=0
 chain:∀(i:Nat) p q,T[i]?=some p→T[i+1]?=some q→q.1∈g p.1
 steps:∀a s,(a,s)∈T→s≤(g a).length∧∀j y,j<s→(g a)[j]?=some y→y∈B
 fin:∀d∈F,∀y∈g d,y∈B
 par:∀(i:Nat) x,F[i]?=some x→x≠0→∃p,x∈g p∧p∈B∧p∉F.take (i+1)
theorem get_last{α:Type}(T:List α)(p:α):(T++[p])[T.length]?=some p:=by simp
theorem get_init{α:Type}{T:List α}{p q:α}{i:Nat}(h:T[i]?=some q):(T++[p])[i]?=some q:=by
 rw[List.getElem?_append_left (List.getElem?_eq_some_iff.mp h).1];exact h
theorem get_snoc{α:Type}{T:List α}{p q:α}{i:Nat}(h:(T++[p])[i]?=some q):T[i]?=some q∨(i=T.length∧q=p):=by
 by_cases hi:i<T.length
 ·rw[List.getElem?_append_left hi] at h;exact .inl h
 ·rw[List.getElem?_append_right (by omega)] at h
  have h':=(List.getElem?_eq_some_iff.mp h).1
  simp at h'
  have e:i - T.length=0:=by omega
  rw[e] at h
  simp at h
  exact .inr ⟨by omega,h.symm⟩
theorem Wk.open{g:Nat→List Nat}{n a s y:Nat}{B F:List Nat}{T:List (Nat×Nat)}(w:Wk g n B (T++[(a,s)]) F)(hy:(g a)[s]?=some y)(hn:y<n)(hb:y∉B):Wk g n (B++[y]) (T++[(a,s+1),(y,0)]) F where
 bn:=by
  rw[List.nodup_append]
  refine⟨w.bn,by simp,fun x hx z hz=>?_⟩
  simp at hz
  subst hz
  exact fun e=>hb (e ▸ hx)
 bl:=by
  intro x hx
  rcases List.mem_append.mp hx with h | h
  ·exact w.bl x h
  ·simp at h;omega
 z:=List.mem_append_left _ w.z
 mem:=by
  intro x
  rw[List.mem_append,w.mem x]
  simp only[List.mem_append,List.mem_singleton,List.mem_cons,Prod.mk.injEq,List.not_mem_nil,or_false]
  constructor
  ·rintro((⟨s',h | ⟨rfl,rfl⟩⟩ | h) | rfl)
   ·exact .inl ⟨s',.inl h⟩
   ·exact .inl ⟨s'+1,.inr (.inl ⟨rfl,rfl⟩)⟩
   ·exact .inr h
   ·exact .inl ⟨0,.inr (.inr ⟨rfl,rfl⟩)⟩
  ·rintro(⟨s',h | ⟨rfl,rfl⟩ | ⟨rfl,rfl⟩⟩ | h)
   ·exact .inl (.inl ⟨s',.inl h⟩)
   ·exact .inl (.inl ⟨s,.inr ⟨rfl,rfl⟩⟩)
   ·exact .inr rfl
   ·exact .inl (.inr h)
 nd:=by
  have h1:=w.nd
  have h2:y∉(T++[(a,s)]).map (·.1)++F:=by
   intro h
   apply hb
   rw[w.mem y]
   rcases List.mem_append.mp h with h | h
   ·obtain⟨⟨b,t⟩,hp,e⟩:=List.mem_map.mp h
    simp at e
    subst e
    exact .inl ⟨t,hp⟩
   ·exact .inr h
  have p:((T++[(a,s+1),(y,0)]).map (·.1)++F).Perm (y::((T++[(a,s)]).map (·.1)++F)):=by
   simp only[List.map_append,List.map_cons,List.map_nil,List.append_assoc,List.cons_append,List.nil_append]
   have q:=List.perm_middle (a:=y) (l₁:=List.map (fun x=>x.1) T++[a]) (l₂:=F)
   simpa only[List.append_assoc,List.cons_append,List.nil_append] using q
  exact p.nodup_iff.mpr (List.nodup_cons.mpr ⟨h2,h1⟩)
 first:=by
  intro p h
  have:T++[(a,s+1),(y,0)]=(T++[(a,s+1)])++[(y,0)]:=by simp
  rw[this] at h
  rcases get_snoc h with h | ⟨e,rfl⟩
  ·rcases get_snoc h with h | ⟨e,rfl⟩
   ·exact w.first p (get_init h)
   ·exact w.first (a,s) (by rw[e];exact get_last _ _)
  ·simp at e
 chain:=by
  intro i p q h1 h2
  have:T++[(a,s+1),(y,0)]=(T++[(a,s+1)])++[(y,0)]:=by simp
  rw[this] at h1 h2
  rcases get_snoc h2 with h2 | ⟨e,rfl⟩
  ·rcases get_snoc h1 with h1 | ⟨e1,rfl⟩
   ·rcases get_snoc h2 with h2 | ⟨e,rfl⟩
    ·rcases get_snoc h1 with h1 | ⟨e1,rfl⟩
     ·exact w.chain i p q (get_init h1) (get_init h2)
     ·have:=(List.getElem?_eq_some_iff.mp h2).1
      omega
    ·rcases get_snoc h1 with h1 | ⟨e1,rfl⟩
     ·exact w.chain i p (a,s) (get_init h1) (by rw[e];exact get_last _ _)
     ·omega
   ·have:=(List.getElem?_eq_some_iff.mp h2).1
    omega
  ·rcases get_snoc h1 with h1 | ⟨e1,rfl⟩
   ·rcases get_snoc h1 with h1 | ⟨e1,rfl⟩
    ·have:=(List.getElem?_eq_some_iff.mp h1).1
     simp at e
     omega
    ·exact List.mem_of_getElem? hy
   ·omega
 steps:=by
  intro b t h
  simp only[List.mem_append,List.mem_cons,List.not_mem_nil,or_false,Prod.mk.injEq] at h
  rcases h with h | ⟨rfl,rfl⟩ | ⟨rfl,rfl⟩
  ·obtain⟨h1,h2⟩:=w.steps b t (List.mem_append_left _ h)
   exact⟨h1,fun j z hj hz=>List.mem_append_left _ (h2 j z hj hz)⟩
  ·obtain⟨h1,h2⟩:=w.steps b s (by simp)
   refine⟨(List.getElem?_eq_some_iff.mp hy).1,fun j z hj hz=>?_⟩
   by_cases e:j=s
   ·subst e;rw[hy] at hz;cases hz;simp
   ·exact List.mem_append_left _ (h2 j z (by omega) hz)
  ·exact⟨Nat.zero_le _,fun j y h=>by omega⟩
 fin:=fun d h z hz=>List.mem_append_left _ (w.fin d h z hz)
 par:=by
  intro i x h hx
  obtain⟨p,h1,h2,h3⟩:=w.par i x h hx
  exact⟨p,h1,List.mem_append_left _ h2,h3⟩
structure Ord(g:Nat→List Nat)(n:Nat)(O:List Nat):Prop where
 nd:O.Nodup
 lt:∀x∈O,x<n
 z:O[0]?=some 0
 cl:∀x∈O,∀y∈g x,y∈O
 up:∀(k:Nat) x,O[k]?=some x→k≠0→∃(j:Nat) (p:Nat),j<k∧O[j]?=some p∧x∈g p
structure Fd(g:Nat→List Nat)(n a:Nat)(L:List Nat)(t:Nat):Prop where
 nd:L.Nodup
 z:L[0]?=some 0
 av:∀x∈L,Av g a x
 done:∀(i:Nat) x,i<t→L[i]?=some x→∀y∈g x,y=a∨y∈L
 le:t≤L.length
end GT
namespace ND
structure St where
 b:List Nat
 s:List (Nat×List Nat)
 d:List Nat
def stp(g:Nat→List Nat):St→St
 | ⟨b,[],d⟩=>⟨b,[],d⟩
 | ⟨b,(x,[])::s,d⟩=>⟨b,s,d++[x]⟩
 | ⟨b,(x,t::r)::s,d⟩=>if t∈b then⟨b,(x,r)::s,d⟩ else⟨b++[t],(t,g t)::(x,r)::s,d⟩
def itr(g:Nat→List Nat):Nat→St→St
 | 0,s=>s
 | k+1,s=>stp g (itr g k s)
def Ends(g:Nat→List Nat)(x:Nat)(d:List Nat):Prop:=∃k b,itr g k ⟨[x],[(x,g x)],[]⟩=⟨b,[],d⟩
def mp(π:Nat→Nat)(s:St):St:=⟨s.b.map π,s.s.map fun p=>(π p.1,p.2.map π),s.d.map π⟩
structure In(S:Nat→Prop)(z:St):Prop where
 b:∀x∈z.b,S x
 s:∀p∈z.s,S p.1∧∀t∈p.2,S t
 d:∀x∈z.d,S x
theorem In.stp{g:Nat→List Nat}{S:Nat→Prop}(cl:∀x,S x→∀t∈g x,S t){s:St}(h:In S s):In S (stp g s):=by
 obtain⟨b,s,d⟩:=s
 cases s with
 | nil=>exact h
 | cons p s=>
  obtain⟨x,r⟩:=p
  have hx:=h.s (x,r) List.mem_cons_self
  cases r with
  | nil=>exact⟨h.b,fun p hp=>h.s p (List.mem_cons_of_mem _ hp),fun y hy=>(List.mem_append.mp hy).elim (h.d y) fun z=>by rw[List.mem_singleton] at z;subst z;exact hx.1⟩
  | cons t r=>
   show In S (if t∈b then _ else _)
   split
   ·refine⟨h.b,fun p hp=>?_,h.d⟩
    rcases List.mem_cons.mp hp with rfl | hp
    ·exact⟨hx.1,fun u hu=>hx.2 u (List.mem_cons_of_mem _ hu)⟩
    ·exact h.s p (List.mem_cons_of_mem _ hp)
   ·have ht:=hx.2 t List.mem_cons_self
    refine⟨fun y hy=>(List.mem_append.mp hy).elim (h.b y) fun z=>by rw[List.mem_singleton] at z;subst z;exact ht,fun p hp=>?_,h.d⟩
    rcases List.mem_cons.mp hp with rfl | hp
    ·exact⟨ht,cl t ht⟩
    ·rcases List.mem_cons.mp hp with rfl | hp
     ·exact⟨hx.1,fun u hu=>hx.2 u (List.mem_cons_of_mem _ hu)⟩
     ·exact h.s p (List.mem_cons_of_mem _ hp)
theorem mp_stp{g g':Nat→List Nat}{S:Nat→Prop}{π:Nat→Nat}(inj:∀x y,S x→S y→π x=π y→x=y)(hg:∀x,S x→g' (π x)=(g x).map π){s:St}(h:In S s):stp g' (mp π s)=mp π (stp g s):=by
 obtain⟨b,s,d⟩:=s
 cases s with
 | nil=>rfl
 | cons p s=>
  obtain⟨x,r⟩:=p
  have hx:=h.s (x,r) List.mem_cons_self
  cases r with
  | nil=>show St.mk (b.map π) _ (d.map π++[π x])=St.mk (b.map π) _ ((d++[x]).map π);rw[List.map_append];rfl
  | cons t r=>
   have ht:=hx.2 t List.mem_cons_self
   have e:π t∈b.map π↔t∈b:=by
    constructor
    ·intro z
     obtain⟨y,hy,e⟩:=List.mem_map.mp z
     rw[←inj y t (h.b y hy) ht e];exact hy
    ·exact fun z=>List.mem_map.mpr ⟨t,z,rfl⟩
   show(if π t∈b.map π then _ else _)=mp π (if t∈b then _ else _)
   by_cases hb:t∈b
   ·rw[if_pos (e.mpr hb),if_pos hb];rfl
   ·rw[if_neg (fun z=>hb (e.mp z)),if_neg hb]
    show St.mk (b.map π++[π t]) ((π t,g' (π t))::_) (d.map π)=St.mk ((b++[t]).map π) ((π t,(g t).map π)::_) (d.map π)
    rw[List.map_append,hg t ht];rfl
theorem mp_itr{g g':Nat→List Nat}{S:Nat→Prop}{π:Nat→Nat}(cl:∀x,S x→∀t∈g x,S t)(inj:∀x y,S x→S y→π x=π y→x=y)(hg:∀x,S x→g' (π x)=(g x).map π){s:St}(h:In S s):∀k,itr g' k (mp π s)=mp π (itr g k s)∧In S (itr g k s)
 | 0=>⟨rfl,h⟩
 | k+1=>by
  obtain⟨h1,h2⟩:=mp_itr cl inj hg h k
  exact⟨by show stp g' (itr g' k (mp π s))=mp π (stp g (itr g k s));rw[h1,mp_stp inj hg h2],h2.stp cl⟩
theorem Ends.map{g g':Nat→List Nat}{S:Nat→Prop}{π:Nat→Nat}{x:Nat}{d:List Nat}(cl:∀x,S x→∀t∈g x,S t)(inj:∀x y,S x→S y→π x=π y→x=y)(hg:∀x,S x→g' (π x)=(g x).map π)(hx:S x)(h:Ends g x d):Ends g' (π x) (d.map π):=by
 obtain⟨k,b,h⟩:=h
 have i0:In S ⟨[x],[(x,g x)],[]⟩:=⟨fun y hy=>by rw[List.mem_singleton] at hy;subst hy;exact hx,fun p hp=>by rw[List.mem_singleton] at hp;subst hp;exact⟨hx,cl x hx⟩,fun y hy=>by simp at hy⟩
 have:=(mp_itr cl inj hg i0 k).1
 rw[h] at this
 refine⟨k,b.map π,?_⟩
 rw[hg x hx]
 exact this
structure Ok(g:Nat→List Nat)(x:Nat)(s:St):Prop where
 nb:s.b.Nodup
 nd:(s.s.map (·.1)++s.d).Nodup
 eq:∀y,y∈s.b↔y∈s.s.map (·.1)∨y∈s.d
 cl:∀y∈s.d,∀t∈g y,t∈s.b
 op:∀p∈s.s,(∀t∈p.2,t∈g p.1)∧∀t∈g p.1,t∈p.2∨t∈s.b
 bot:s.s.getLast?.map (·.1)=some x∨(s.s=[]∧s.d.getLast?=some x)
theorem Ok.stp{g:Nat→List Nat}{x:Nat}{s:St}(h:Ok g x s):Ok g x (stp g s):=by
 obtain⟨b,s,d⟩:=s
 cases s with
 | nil=>exact h
 | cons p s=>
  obtain⟨y,r⟩:=p
  obtain⟨h1,h2,h3,h4,h5,h6⟩:=h
  simp only[List.map_cons] at h2 h3 h4 h5 h6
  cases r with
  | nil=>
   show Ok g x ⟨b,s,d++[y]⟩
   refine⟨h1,?_,fun z=>?_,fun z hz t ht=>?_,fun p hp=>h5 p (List.mem_cons_of_mem _ hp),?_⟩
   ·show(s.map (·.1)++(d++[y])).Nodup
    rw[←List.append_assoc]
    have h2':(y::(s.map (·.1)++d)).Nodup:=h2
    rw[List.nodup_cons] at h2'
    exact List.nodup_append.mpr ⟨h2'.2,by simp,fun a ha c hc=>by rw[List.mem_singleton] at hc;subst hc;exact fun e=>h2'.1 (e ▸ ha)⟩
   ·show z∈b↔z∈s.map (·.1)∨z∈d++[y]
    rw[h3 z]
    simp only[List.mem_cons,List.mem_append,List.not_mem_nil,or_false]
    constructor
    ·rintro((h | h) | h)
     ·exact .inr (.inr h)
     ·exact .inl h
     ·exact .inr (.inl h)
    ·rintro(h | h | h)
     ·exact .inl (.inr h)
     ·exact .inr h
     ·exact .inl (.inl h)
   ·rcases List.mem_append.mp hz with hz | hz
    ·exact h4 z hz t ht
    ·rw[List.mem_singleton] at hz
     subst hz
     exact((h5 (z,[]) List.mem_cons_self).2 t ht).resolve_left (by simp)
   ·cases s with
    | nil=>
     refine .inr ⟨rfl,?_⟩
     rcases h6 with h6 | ⟨h6,_⟩
     ·show(d++[y]).getLast?=some x
      rw[List.getLast?_append]
      simpa using h6
     ·cases h6
    | cons q s=>
     refine .inl ?_
     rcases h6 with h6 | ⟨h6,_⟩
     ·show(q::s).getLast?.map (·.1)=some x
      rw[List.getLast?_cons_cons] at h6
      exact h6
     ·cases h6
  | cons t r=>
   have hy:=h5 (y,t::r) List.mem_cons_self
   show Ok g x (if t∈b then⟨b,(y,r)::s,d⟩ else⟨b++[t],(t,g t)::(y,r)::s,d⟩)
   split
   ·rename_i hb
    refine⟨h1,h2,h3,h4,fun p hp=>?_,?_⟩
    ·rcases List.mem_cons.mp hp with rfl | hp
     ·refine⟨fun u hu=>hy.1 u (List.mem_cons_of_mem _ hu),fun u hu=>?_⟩
      rcases hy.2 u hu with z | z
      ·rcases List.mem_cons.mp z with rfl | z
       ·exact .inr hb
       ·exact .inl z
      ·exact .inr z
     ·exact h5 p (List.mem_cons_of_mem _ hp)
    ·rcases h6 with h6 | ⟨h6,_⟩
     ·refine .inl ?_
      cases s with
      | nil=>exact h6
      | cons q s=>rw[List.getLast?_cons_cons] at h6 ⊢;exact h6
     ·cases h6
   ·rename_i hb
    have hn:¬(t=y∨t∈s.map (·.1))∧t∉d:=by
     have:=fun z=>hb ((h3 t).mpr z)
     simp only[List.mem_cons] at this
     exact⟨fun z=>this (.inl z),fun z=>this (.inr z)⟩
    refine⟨?_,?_,fun z=>?_,fun z hz u hu=>List.mem_append_left _ (h4 z hz u hu),fun p hp=>?_,?_⟩
    ·exact List.nodup_append.mpr ⟨h1,by simp,fun a ha c hc=>by rw[List.mem_singleton] at hc;subst hc;exact fun e=>hb (e ▸ ha)⟩
    ·show(t::(y::s.map (·.1)++d)).Nodup
     rw[List.nodup_cons]
     refine⟨fun z=>?_,h2⟩
     rcases List.mem_append.mp z with z | z
     ·exact hn.1 (List.mem_cons.mp z)
     ·exact hn.2 z
    ·show z∈b++[t]↔z∈t::y::s.map (·.1)∨z∈d
     rw[List.mem_append,h3 z,List.mem_singleton,List.mem_cons (a:=z) (b:=t)]
     constructor
     ·rintro((h | h) | h)
      ·exact .inl (.inr h)
      ·exact .inr h
      ·exact .inl (.inl h)
     ·rintro((h | h) | h)
      ·exact .inr h
      ·exact .inl (.inl h)
      ·exact .inl (.inr h)
    ·rcases List.mem_cons.mp hp with rfl | hp
     ·exact⟨fun u hu=>hu,fun u hu=> .inl hu⟩
     ·rcases List.mem_cons.mp hp with rfl | hp
      ·refine⟨fun u hu=>hy.1 u (List.mem_cons_of_mem _ hu),fun u hu=>?_⟩
       rcases hy.2 u hu with z | z
       ·rcases List.mem_cons.mp z with rfl | z
        ·exact .inr (List.mem_append_right _ (by simp))
        ·exact .inl z
       ·exact .inr (List.mem_append_left _ z)
      ·obtain⟨a1,a2⟩:=h5 p (List.mem_cons_of_mem _ hp)
       exact⟨a1,fun u hu=>(a2 u hu).imp id (List.mem_append_left _)⟩
    ·rcases h6 with h6 | ⟨h6,_⟩
     ·refine .inl ?_
      rw[List.getLast?_cons_cons]
      cases s with
      | nil=>exact h6
      | cons q s=>rw[List.getLast?_cons_cons] at h6 ⊢;exact h6
     ·cases h6
theorem Ok.itr{g:Nat→List Nat}{x:Nat}{s:St}(h:Ok g x s):∀k,Ok g x (itr g k s)
 | 0=>h
 | k+1=>(Ok.itr h k).stp
theorem nodup_len(N:Nat)(l:List Nat)(nd:l.Nodup)(h:∀x∈l,x<N):l.length≤N:=by
 have:l.length≤(List.range N).length:=List.Nodup.length_le_of_subset nd (fun x hx=>List.mem_range.mpr (h x hx))
 simpa using this
end ND
namespace LN
inductive Orb (J:Nat→Option Nat):Nat→Nat→Prop
 | refl (p:Nat):Orb J p p
 | step {p q r:Nat}:J p=some q→Orb J q r→Orb J p r
theorem Orb.trans{J:Nat→Option Nat}{p q r:Nat}(h:Orb J p q)(g:Orb J q r):Orb J p r:=by
 induction h with
 | refl _=>exact g
 | step e _ ih=>exact .step e (ih g)
def Ln(J:Nat→Option Nat)(n:Nat)(m:Nat→Option Nat):Prop:=∀p g,m p=some g→p<n∧(J p=none→g=p)∧(∀q,J p=some q→m q=some g)∧Orb J p g
def Lk(J:Nat→Option Nat):Nat→List Nat→Nat→Prop
 | s,[],p=>s=p
 | s,x::r,p=>s=x∧∃q,J x=some q∧Lk J q r p
theorem Lk.snoc{J:Nat→Option Nat}{p q:Nat}(e:J p=some q):∀{s:Nat} {P:List Nat},Lk J s P p→Lk J s (P++[p]) q
 | s,[],h=>⟨h,q,e,rfl⟩
 | s,x::r,⟨h1,t,h2,h3⟩=>⟨h1,t,h2,Lk.snoc e h3⟩
theorem Lk.next{J:Nat→Option Nat}:∀{s p:Nat} {P:List Nat},Lk J s P p→∀x∈P,∃q,J x=some q∧(q∈P∨q=p)∧Orb J x p
 | s,p,[],h,x,hx=>by cases hx
 | s,p,y::r,h,x,hx=>by
  obtain⟨rfl,t,h2,h3⟩:=h
  have ho:Orb J t p:=by
   cases r with
   | nil=>rw[show t=p from h3];exact .refl _
   | cons z r=>
    obtain⟨_,_,_,h⟩:=Lk.next h3 z List.mem_cons_self
    rw[h3.1];exact h
  rcases List.mem_cons.mp hx with rfl | hx
  ·refine⟨t,h2,?_,.step h2 ho⟩
   cases r with
   | nil=>exact .inr h3
   | cons z r=>exact .inl (List.mem_cons_of_mem _ (by rw[h3.1];exact List.mem_cons_self))
  ·obtain⟨q,a1,a2,a3⟩:=Lk.next h3 x hx
   exact⟨q,a1,a2.imp (List.mem_cons_of_mem _) id,a3⟩
def land(m:Nat→Option Nat)(P:List Nat)(p g:Nat):Nat→Option Nat:=fun x=>if x∈P then some g else if x=p then some g else m x
theorem Ln.land{J:Nat→Option Nat}{n s p:Nat}{m:Nat→Option Nat}{P:List Nat}(h:Ln J n m)(k:Lk J s P p)(hn:∀x∈P,x<n∧m x=none)(hp:p<n)
  (stop:(m p).isSome=true∨p∈P∨J p=none):Ln J n (land m P p ((m p).getD p))∧(land m P p ((m p).getD p) s).isSome=true∧∀x,(m x).isSome=true→(land m P p ((m p).getD p) x).isSome=true:=by
 have og:Orb J p ((m p).getD p):=by
  cases e:m p with
  | none=>exact .refl _
  | some g=>exact(h p g e).2.2.2
 refine⟨fun x g hx=>?_,?_,fun x hx=>?_⟩
 ·unfold LN.land at hx
  split at hx
  ·rename_i hP
   cases hx
   obtain⟨q,a1,a2,a3⟩:=k.next x hP
   refine⟨(hn x hP).1,fun z=>(by rw[a1] at z;cases z),fun q' hq=>?_,a3.trans og⟩
   rw[a1] at hq
   cases hq
   unfold LN.land
   rcases a2 with a2 | a2
   ·rw[if_pos a2]
   ·split
    ·rfl
    ·first | rfl | rw[if_pos a2]
  ·rename_i hP
   split at hx
   ·rename_i ex
    subst ex
    cases hx
    refine⟨hp,fun z=>?_,fun q hq=>?_,og⟩
    ·cases e:m x with
     | none=>rfl
     | some g=>exact(h x g e).2.1 z
    ·cases e:m x with
     | none=>
      rcases stop with z | z | z
      ·rw[e] at z;cases z
      ·exact absurd z hP
      ·rw[hq] at z;cases z
     | some g=>
      have:=(h x g e).2.2.1 q hq
      unfold LN.land
      show(if q∈P then some g else if q=x then some g else m q)=some g
      split
      ·rfl
      ·split
       ·rfl
       ·exact this
   ·rename_i ex
    obtain⟨b1,b2,b3,b4⟩:=h x g hx
    refine⟨b1,b2,fun q hq=>?_,b4⟩
    have hm:=b3 q hq
    unfold LN.land
    split
    ·rename_i hqP
     rw[(hn q hqP).2] at hm
     cases hm
    ·split
     ·rename_i eq
      subst eq
      rw[hm];rfl
     ·exact hm
 ·unfold LN.land
  cases P with
  | nil=>rw[if_neg (by simp),if_pos (show s=p from k)];rfl
  | cons y r=>rw[if_pos (by rw[k.1];exact List.mem_cons_self)];rfl
 ·unfold LN.land
  split
  ·rfl
  ·split
   ·rfl
   ·exact hx
end LN
namespace K07
open PySem PySem.Spec PyProof.Rows L2 L3 U
def top(i:Nat):Stmt:=PySem.Challenge.pw_unjump_k07_run_by_rows.main.body.getD i (.Pass ⟨0,0,0,0⟩)
def FN:List Str:=["quotient","rest","made","holds","worth","deed_of_sum","deed_of_test","behind","deed_of","run_from","landings","linked","run","_law_cell","_law_mixed","_law_names","_law_great","_law_operand","_law_row","_law_rows","_law_memory","_law_alike","_law_same_memory","_law_worth","_law_sum","_law_deed","_law_run","_law_fits","law","run"]
def GN:List Str:=["JumpError","ByNought"]
def BN:List Str:=["isinstance","str","len","dict","range","enumerate","list","tuple","int","bool"]
abbrev s_quotient:Stmt:=top 5
def N_quotient:List Str:=["one","other"]
theorem sc_quotient:FnScope N_quotient ["one","other"] (defScope s_quotient):=⟨rfl,rfl,rfl,by decide+kernel,rfl,by decide+kernel,by decide+kernel⟩
def b_quotient_1:Ss:=
 (.cons (.ret (.bin .fdiv (.var 0) (.var 1)))
 .nil)
def b_quotient:Ss:=
 (.cons (.ite (.cmp .eq (.var 1) (.int 0)) (.cons (.raise 1 .nil)
 .nil) .nil)
 b_quotient_1)
theorem c_quotient:chkSs (ck1 [1] N_quotient s_quotient FN GN BN) b_quotient (defBody s_quotient)=true:=by decide+kernel
abbrev s_rest:Stmt:=top 6
def N_rest:List Str:=["one","other"]
theorem sc_rest:FnScope N_rest ["one","other"] (defScope s_rest):=⟨rfl,rfl,rfl,by decide+kernel,rfl,by decide+kernel,by decide+kernel⟩
def b_rest_1:Ss:=
 (.cons (.ret (.bin .mod (.var 0) (.var 1)))
 .nil)
def b_rest:Ss:=
 (.cons (.ite (.cmp .eq (.var 1) (.int 0)) (.cons (.raise 1 .nil)
 .nil) .nil)
 b_rest_1)
theorem c_rest:chkSs (ck1 [1] N_rest s_rest FN GN BN) b_rest (defBody s_rest)=true:=by decide+kernel
abbrev s_made:Stmt:=top 4
def N_made:List Str:=["sign","one","other"]
theorem sc_made:FnScope N_made ["sign","one","other"] (defScope s_made):=⟨rfl,rfl,rfl,by decide+kernel,rfl,by decide+kernel,by decide+kernel⟩
def b_made_1:Ss:=
 (.cons (.ret (.bin .bxor (.var 1) (.var 2)))
 .nil)
def b_made_2:Ss:=
 (.cons (.ite (.cmp .eq (.var 0) (.str "&")) (.cons (.ret (.bin .band (.var 1) (.var 2)))
 .nil) .nil)
 b_made_1)
def b_made_3:Ss:=
 (.cons (.ite (.cmp .eq (.var 0) (.str "rest")) (.cons (.ret (.call 1 (.cons (.var 1) (.cons (.var 2) .nil))))
 .nil) .nil)
 b_made_2)
def b_made_4:Ss:=
 (.cons (.ite (.cmp .eq (.var 0) (.str "/")) (.cons (.ret (.call 0 (.cons (.var 1) (.cons (.var 2) .nil))))
 .nil) .nil)
 b_made_3)
def b_made_5:Ss:=
 (.cons (.ite (.cmp .eq (.var 0) (.str "-")) (.cons (.ret (.bin .sub (.var 1) (.var 2)))
 .nil) .nil)
 b_made_4)
def b_made:Ss:=
 (.cons (.ite (.cmp .eq (.var 0) (.str "+")) (.cons (.ret (.bin .add (.var 1) (.var 2)))
 .nil) .nil)
 b_made_5)
theorem c_made:chkSs (ck1 [] N_made s_made FN GN BN) b_made (defBody s_made)=true:=by decide+kernel
abbrev s_holds:Stmt:=top 7
def N_holds:List Str:=["sign","one","other"]
theorem sc_holds:FnScope N_holds ["sign","one","other"] (defScope s_holds):=⟨rfl,rfl,rfl,by decide+kernel,rfl,by decide+kernel,by decide+kernel⟩
def b_holds_1:Ss:=
 (.cons (.ret (.cmp .eq (.var 1) (.var 2)))
 .nil)
def b_holds:Ss:=
 (.cons (.ite (.cmp .eq (.var 0) (.str "<")) (.cons (.ret (.cmp .lt (.var 1) (.var 2)))
 .nil) .nil)
 b_holds_1)
theorem c_holds:chkSs (ck0 N_holds s_holds FN GN BN) b_holds (defBody s_holds)=true:=by decide+kernel
abbrev s_worth:Stmt:=top 8
def N_worth:List Str:=["operand","memory"]
theorem sc_worth:FnScope N_worth ["operand","memory"] (defScope s_worth):=⟨rfl,rfl,rfl,by decide+kernel,rfl,by decide+kernel,by decide+kernel⟩
def b_worth_1:Ss:=
 (.cons (.ret (.var 0))
 .nil)
def b_worth:Ss:=
 (.cons (.ite (.bf .isinst (.cons (.var 0) (.cons (.ty .str) .nil))) (.cons (.ret (.mt .get2 (.var 1) (.cons (.var 0) (.cons (.int 0) .nil))))
 .nil) .nil)
 b_worth_1)
theorem c_worth:chkSs (ck0 N_worth s_worth FN GN BN) b_worth (defBody s_worth)=true:=by decide+kernel
abbrev s_deed_of_sum:Stmt:=top 9
def N_deed_of_sum:List Str:=["name","one","sign","other","memory","a","b"]
theorem sc_deed_of_sum:FnScope N_deed_of_sum ["name","one","sign","other","memory"] (defScope s_deed_of_sum):=⟨rfl,rfl,rfl,by decide+kernel,rfl,by decide+kernel,by decide+kernel⟩
def b_deed_of_sum:Ss:=
 (.cons (.set [5] (.call 4 (.cons (.var 1) (.cons (.var 4) .nil))))
 (.cons (.set [6] (.call 4 (.cons (.var 3) (.cons (.var 4) .nil))))
 (.cons (.ret (.tup (.cons (.str "sum") (.cons (.var 0) (.cons (.var 5) (.cons (.var 2) (.cons (.var 6) (.cons (.call 2 (.cons (.var 2) (.cons (.var 5) (.cons (.var 6) .nil)))) .nil))))))))
 .nil)))
theorem c_deed_of_sum:chkSs (ck1 [] N_deed_of_sum s_deed_of_sum FN GN BN) b_deed_of_sum (defBody s_deed_of_sum)=true:=by decide+kernel
abbrev s_deed_of_test:Stmt:=top 10
def N_deed_of_test:List Str:=["one","sign","other","memory","a","b"]
theorem sc_deed_of_test:FnScope N_deed_of_test ["one","sign","other","memory"] (defScope s_deed_of_test):=⟨rfl,rfl,rfl,by decide+kernel,rfl,by decide+kernel,by decide+kernel⟩
def b_deed_of_test:Ss:=
 (.cons (.set [4] (.call 4 (.cons (.var 0) (.cons (.var 3) .nil))))
 (.cons (.set [5] (.call 4 (.cons (.var 2) (.cons (.var 3) .nil))))
 (.cons (.ret (.tup (.cons (.str "test") (.cons (.var 4) (.cons (.var 1) (.cons (.var 5) (.cons (.call 3 (.cons (.var 1) (.cons (.var 4) (.cons (.var 5) .nil)))) .nil)))))))
 .nil)))
theorem c_deed_of_test:chkSs (ck0 N_deed_of_test s_deed_of_test FN GN BN) b_deed_of_test (defBody s_deed_of_test)=true:=by decide+kernel
abbrev s_behind:Stmt:=top 14
def N_behind:List Str:=["node","deed","memory"]
theorem sc_behind:FnScope N_behind ["node","deed","memory"] (defScope s_behind):=⟨rfl,rfl,rfl,by decide+kernel,rfl,by decide+kernel,by decide+kernel⟩
def b_behind_1:Ss:=
 (.cons (.ret (.ife (.ix (.var 1) (.int 4)) (.ix (.var 0) (.int 4)) (.ix (.var 0) (.int 5))))
 .nil)
def b_behind:Ss:=
 (.cons (.ite (.cmp .eq (.ix (.var 0) (.int 0)) (.str "sum")) (.cons (.put (.var 2) (.ix (.var 0) (.int 1)) (.ix (.var 1) (.int 5)))
 (.cons (.ret (.ix (.var 0) (.int 5)))
 .nil)) .nil)
 b_behind_1)
theorem c_behind:chkSs (ck0 N_behind s_behind FN GN BN) b_behind (defBody s_behind)=true:=by decide+kernel
abbrev s_deed_of:Stmt:=top 13
def N_deed_of:List Str:=["node","memory"]
theorem sc_deed_of:FnScope N_deed_of ["node","memory"] (defScope s_deed_of):=⟨rfl,rfl,rfl,by decide+kernel,rfl,by decide+kernel,by decide+kernel⟩
def b_deed_of_1:Ss:=
 (.cons (.ret (.call 6 (.cons (.ix (.var 0) (.int 1)) (.cons (.ix (.var 0) (.int 2)) (.cons (.ix (.var 0) (.int 3)) (.cons (.var 1) .nil))))))
 .nil)
def b_deed_of:Ss:=
 (.cons (.ite (.cmp .eq (.ix (.var 0) (.int 0)) (.str "sum")) (.cons (.ret (.call 5 (.cons (.ix (.var 0) (.int 1)) (.cons (.ix (.var 0) (.int 2)) (.cons (.ix (.var 0) (.int 3)) (.cons (.ix (.var 0) (.int 4)) (.cons (.var 1) .nil)))))))
 .nil) .nil)
 b_deed_of_1)
theorem c_deed_of:chkSs (ck1 [] N_deed_of s_deed_of FN GN BN) b_deed_of (defBody s_deed_of)=true:=by decide+kernel
abbrev s_run_from:Stmt:=top 12
def N_run_from:List Str:=["nodes","start","memory","most","held","deeds","place","deed","word"]
theorem sc_run_from:FnScope N_run_from ["nodes","start","memory","most"] (defScope s_run_from):=⟨rfl,rfl,rfl,by decide+kernel,rfl,by decide+kernel,by decide+kernel⟩
def b_run_from_1:Ss:=
 (.cons (.set [8] (.ife (.cmp .eq (.ix (.ix (.var 0) (.var 6)) (.int 0)) (.str "end")) (.str "end") (.str "on")))
 (.cons (.ret (.tup (.cons (.var 5) (.cons (.var 8) (.cons (.var 4) .nil)))))
 .nil))
def b_run_from_2:Ss:=
 (.cons (.expr (.mt .append (.var 5) (.cons (.var 7) .nil)))
 (.cons (.set [6] (.call 7 (.cons (.ix (.var 0) (.var 6)) (.cons (.var 7) (.cons (.var 4) .nil)))))
 .nil))
def b_run_from_3:Ss:=
 (.cons (.tryN (.set 7) 8 (.cons (.ix (.var 0) (.var 6)) (.cons (.var 4) .nil)) 1 (.cons (.ret (.tup (.cons (.var 5) (.cons (.str "fault") (.cons (.var 4) .nil)))))
 .nil))
 b_run_from_2)
def b_run_from:Ss:=
 (.cons (.set [4] (.bf .dict1 (.cons (.var 2) .nil)))
 (.cons (.set [5] (.lst .nil))
 (.cons (.set [6] (.var 1))
 (.cons (.while_ (.bop true (.cons (.cmp .isin (.ix (.ix (.var 0) (.var 6)) (.int 0)) (.tup (.cons (.str "sum") (.cons (.str "test") .nil)))) (.cons (.cmp .lt (.bf .len (.cons (.var 5) .nil)) (.var 3)) .nil))) b_run_from_3)
 b_run_from_1))))
theorem c_run_from:chkSs (ck0 N_run_from s_run_from FN GN BN) b_run_from (defBody s_run_from)=true:=by decide+kernel
abbrev s_landings:Stmt:=top 17
def N_landings:List Str:=["rows","places","landed","start","passed","place","goal","jump"]
theorem sc_landings:FnScope N_landings ["rows","places"] (defScope s_landings):=⟨rfl,rfl,rfl,by decide+kernel,rfl,by decide+kernel,by decide+kernel⟩
def b_landings_1:Ss:=
 (.cons (.ret (.var 2))
 .nil)
def b_landings_2:Ss:=
 (.cons (.put (.var 2) (.var 7) (.var 6))
 .nil)
def b_landings_3:Ss:=
 (.cons (.set [6] (.mt .get2 (.var 2) (.cons (.var 5) (.cons (.var 5) .nil))))
 (.cons (.put (.var 2) (.var 5) (.var 6))
 (.cons (.forK [7] (.var 4) b_landings_2)
 .nil)))
def b_landings_4:Ss:=
 (.cons (.put (.var 4) (.var 5) (.bl true))
 (.cons (.set [5] (.ix (.var 1) (.ix (.ix (.var 0) (.var 5)) (.int 2))))
 .nil))
def b_landings_5:Ss:=
 (.cons (.set [4] .dict0)
 (.cons (.set [5] (.var 3))
 (.cons (.while_ (.bop true (.cons (.cmp .notin (.var 5) (.var 2)) (.cons (.cmp .notin (.var 5) (.var 4)) (.cons (.cmp .eq (.ix (.ix (.var 0) (.var 5)) (.int 1)) (.str "jump")) .nil)))) b_landings_4)
 b_landings_3)))
def b_landings:Ss:=
 (.cons (.set [2] .dict0)
 (.cons (.for_ [3] (.rng1 (.bf .len (.cons (.var 0) .nil))) b_landings_5)
 b_landings_1))
theorem c_landings:chkSs (ck0 N_landings s_landings FN GN BN) b_landings (defBody s_landings)=true:=by decide+kernel
abbrev s_linked:Stmt:=top 16
def N_linked:List Str:=["rows","places","landed","nodes","place","row"]
theorem sc_linked:FnScope N_linked ["rows"] (defScope s_linked):=⟨rfl,rfl,rfl,by decide+kernel,rfl,by decide+kernel,by decide+kernel⟩
def b_linked_1:Ss:=
 (.cons (.ret (.tup (.cons (.var 3) (.cons (.ix (.var 2) (.int 0)) .nil))))
 .nil)
def b_linked_2:Ss:=
 (.cons (.ite (.cmp .eq (.ix (.var 5) (.int 1)) (.str "sum")) (.cons (.expr (.mt .append (.var 3) (.cons (.bin .add (.sl (.var 5) (.yes (.int 1)) .no) (.tup (.cons (.ix (.var 2) (.bin .add (.var 4) (.int 1))) .nil))) .nil)))
 .nil) (.cons (.ite (.cmp .eq (.ix (.var 5) (.int 1)) (.str "test")) (.cons (.expr (.mt .append (.var 3) (.cons (.bin .add (.sl (.var 5) (.yes (.int 1)) (.yes (.int 5))) (.tup (.cons (.ix (.var 2) (.ix (.var 1) (.ix (.var 5) (.int 5)))) (.cons (.ix (.var 2) (.bin .add (.var 4) (.int 1))) .nil)))) .nil)))
 .nil) (.cons (.ite (.cmp .eq (.ix (.var 5) (.int 1)) (.str "end")) (.cons (.expr (.mt .append (.var 3) (.cons (.tup (.cons (.str "end") .nil)) .nil)))
 .nil) (.cons (.expr (.mt .append (.var 3) (.cons (.tup (.cons (.str "spin") .nil)) .nil)))
 .nil))
 .nil))
 .nil))
 .nil)
def b_linked:Ss:=
 (.cons (.set [1] (.bf .dict1 (.cons (.comp ["place","row"] [none,none] [0,1] (.enm (.var 0)) .no (.tup (.cons (.ix (.var 1) (.int 0)) (.cons (.var 0) .nil)))) .nil)))
 (.cons (.set [2] (.call 10 (.cons (.var 0) (.cons (.var 1) .nil))))
 (.cons (.set [3] (.lst .nil))
 (.cons (.for_ [4,5] (.enm (.var 0)) b_linked_2)
 b_linked_1))))
theorem c_linked:chkSs (ck0 N_linked s_linked FN GN BN) b_linked (defBody s_linked)=true:=by decide+kernel
abbrev s_run:Stmt:=top 19
def N_run:List Str:=["rows","memory","most","nodes","start"]
theorem sc_run:FnScope N_run ["rows","memory","most"] (defScope s_run):=⟨rfl,rfl,rfl,by decide+kernel,rfl,by decide+kernel,by decide+kernel⟩
def b_run:Ss:=
 (.cons (.set [3,4] (.call 11 (.cons (.var 0) .nil)))
 (.cons (.ret (.call 9 (.cons (.var 3) (.cons (.var 4) (.cons (.var 1) (.cons (.var 2) .nil))))))
 .nil))
theorem c_run:chkSs (ck0 N_run s_run FN GN BN) b_run (defBody s_run)=true:=by decide+kernel
abbrev s_Lcell:Stmt:=top 21
def N_Lcell:List Str:=["_law_script","_law_k"]
theorem sc_Lcell:FnScope N_Lcell ["_law_script","_law_k"] (defScope s_Lcell):=⟨rfl,rfl,rfl,by decide+kernel,rfl,by decide+kernel,by decide+kernel⟩
def b_Lcell_1:Ss:=
 (.cons (.ret (.int 0))
 .nil)
def b_Lcell:Ss:=
 (.cons (.ite (.cmp .lt (.var 1) (.bf .len (.cons (.var 0) .nil))) (.cons (.ret (.ix (.var 0) (.var 1)))
 .nil) .nil)
 b_Lcell_1)
theorem c_Lcell:chkSs (ck0 N_Lcell s_Lcell FN GN BN) b_Lcell (defBody s_Lcell)=true:=by decide+kernel
abbrev s_Lmixed:Stmt:=top 22
def N_Lmixed:List Str:=["_law_cell_here","_law_k","_law_number"]
theorem sc_Lmixed:FnScope N_Lmixed ["_law_cell_here","_law_k"] (defScope s_Lmixed):=⟨rfl,rfl,rfl,by decide+kernel,rfl,by decide+kernel,by decide+kernel⟩
def b_Lmixed:Ss:=
 (.cons (.set [2] (.bin .mod (.bin .add (.bin .add (.bin .mul (.bin .mod (.var 0) (.int 2147483647)) (.int 48271)) (.bin .mul (.bin .mul (.int 7919) (.var 1)) (.var 1))) (.int 104729)) (.int 2147483647)))
 (.cons (.ret (.bin .mod (.bin .mul (.var 2) (.var 2)) (.int 2147483629)))
 .nil))
theorem c_Lmixed:chkSs (ck0 N_Lmixed s_Lmixed FN GN BN) b_Lmixed (defBody s_Lmixed)=true:=by decide+kernel
abbrev s_Lnames:Stmt:=top 23
def N_Lnames:List Str:=["_law_number","_law_size","_law_at","_law_signs","_law_names_here","_law_k","_law_sign"]
theorem sc_Lnames:FnScope N_Lnames ["_law_number"] (defScope s_Lnames):=⟨rfl,rfl,rfl,by decide+kernel,rfl,by decide+kernel,by decide+kernel⟩
def b_Lnames_1:Ss:=
 (.cons (.ret (.var 4))
 .nil)
def b_Lnames_2:Ss:=
 (.cons (.set [6] (.ix (.var 3) (.bin .mod (.bin .add (.bin .fdiv (.var 0) (.int 64)) (.bin .mul (.int 7) (.var 5))) (.bf .len (.cons (.var 3) .nil)))))
 (.cons (.expr (.mt .append (.var 4) (.cons (.bin .add (.bin .add (.sl (.str "v7w8x9yz") .no (.yes (.var 2))) (.var 6)) (.sl (.str "v7w8x9yz") (.yes (.bin .add (.var 2) (.int 1))) (.yes (.var 1)))) .nil)))
 .nil))
def b_Lnames_3:Ss:=
 (.cons (.set [4] (.lst .nil))
 (.cons (.for_ [5] (.rng1 (.int 4)) b_Lnames_2)
 b_Lnames_1))
def b_Lnames:Ss:=
 (.cons (.set [1] (.bin .add (.int 1) (.bin .mod (.var 0) (.int 8))))
 (.cons (.set [2] (.bin .mod (.bin .fdiv (.var 0) (.int 8)) (.var 1)))
 (.cons (.set [3] (.str "abcdefghijklmnopqrstuvwxyz0123456789"))
 (.cons (.ite (.cmp .eq (.var 2) (.int 0)) (.cons (.set [3] (.sl (.var 3) .no (.yes (.int 26))))
 .nil) .nil)
 b_Lnames_3))))
theorem c_Lnames:chkSs (ck0 N_Lnames s_Lnames FN GN BN) b_Lnames (defBody s_Lnames)=true:=by decide+kernel
abbrev s_Lgreat:Stmt:=top 24
def N_Lgreat:List Str:=["_law_number"]
theorem sc_Lgreat:FnScope N_Lgreat ["_law_number"] (defScope s_Lgreat):=⟨rfl,rfl,rfl,by decide+kernel,rfl,by decide+kernel,by decide+kernel⟩
def b_Lgreat:Ss:=
 (.cons (.ret (.bin .sub (.bin .mod (.bin .mul (.var 0) (.bin .pow (.int 982451653) (.int 3))) (.bin .add (.bin .mul (.int 2) (.bin .pow (.int 10) (.int 18))) (.int 1))) (.bin .pow (.int 10) (.int 18))))
 .nil)
theorem c_Lgreat:chkSs (ck0 N_Lgreat s_Lgreat FN GN BN) b_Lgreat (defBody s_Lgreat)=true:=by decide+kernel
abbrev s_Loperand:Stmt:=top 25
def N_Loperand:List Str:=["_law_number","_law_cell_here","_law_names_here"]
theorem sc_Loperand:FnScope N_Loperand ["_law_number","_law_cell_here","_law_names_here"] (defScope s_Loperand):=⟨rfl,rfl,rfl,by decide+kernel,rfl,by decide+kernel,by decide+kernel⟩
def b_Loperand_1:Ss:=
 (.cons (.ret (.ix (.var 2) (.bin .mod (.bin .fdiv (.var 0) (.int 8)) (.int 4))))
 .nil)
def b_Loperand_2:Ss:=
 (.cons (.ite (.cmp .lt (.bin .mod (.var 0) (.int 8)) (.int 3)) (.cons (.ret (.bin .sub (.bin .mod (.bin .fdiv (.var 0) (.int 8)) (.int 9)) (.int 3)))
 .nil) .nil)
 b_Loperand_1)
def b_Loperand:Ss:=
 (.cons (.ite (.cmp .eq (.bin .mod (.var 0) (.int 8)) (.int 0)) (.cons (.ret (.call 16 (.cons (.bin .add (.var 1) (.var 0)) .nil)))
 .nil) .nil)
 b_Loperand_2)
theorem c_Loperand:chkSs (ck0 N_Loperand s_Loperand FN GN BN) b_Loperand (defBody s_Loperand)=true:=by decide+kernel
abbrev s_Lrow:Stmt:=top 26
def N_Lrow:List Str:=["_law_cell_here","_law_k","_law_numbers","_law_names_here","_law_number","_law_one","_law_other","_law_to","_law_sign"]
theorem sc_Lrow:FnScope N_Lrow ["_law_cell_here","_law_k","_law_numbers","_law_names_here"] (defScope s_Lrow):=⟨rfl,rfl,rfl,by decide+kernel,rfl,by decide+kernel,by decide+kernel⟩
def b_Lrow_1:Ss:=
 (.cons (.ret (.tup (.cons (.ix (.var 2) (.var 1)) (.cons (.str "end") .nil))))
 .nil)
def b_Lrow_2:Ss:=
 (.cons (.ite (.cmp .lt (.bin .mod (.var 4) (.int 16)) (.int 15)) (.cons (.ret (.tup (.cons (.ix (.var 2) (.var 1)) (.cons (.str "jump") (.cons (.var 7) .nil)))))
 .nil) .nil)
 b_Lrow_1)
def b_Lrow_3:Ss:=
 (.cons (.ite (.cmp .lt (.bin .mod (.var 4) (.int 16)) (.int 12)) (.cons (.ret (.tup (.cons (.ix (.var 2) (.var 1)) (.cons (.str "test") (.cons (.var 5) (.cons (.ix (.lst (.cons (.str "<") (.cons (.str "=") .nil))) (.bin .mod (.bin .fdiv (.var 4) (.int 193)) (.int 2))) (.cons (.var 6) (.cons (.var 7) .nil))))))))
 .nil) .nil)
 b_Lrow_2)
def b_Lrow:Ss:=
 (.cons (.set [4] (.call 14 (.cons (.var 0) (.cons (.var 1) .nil))))
 (.cons (.set [5] (.call 17 (.cons (.bin .fdiv (.var 4) (.int 16)) (.cons (.var 0) (.cons (.var 3) .nil)))))
 (.cons (.set [6] (.call 17 (.cons (.bin .fdiv (.var 4) (.int 1024)) (.cons (.bin .fdiv (.var 0) (.int 3)) (.cons (.var 3) .nil)))))
 (.cons (.set [7] (.ix (.var 2) (.bin .mod (.bin .fdiv (.var 4) (.int 65536)) (.bf .len (.cons (.var 2) .nil)))))
 (.cons (.ite (.cmp .lt (.bin .mod (.var 4) (.int 16)) (.int 7)) (.cons (.set [8] (.ix (.lst (.cons (.str "+") (.cons (.str "-") (.cons (.str "/") (.cons (.str "rest") (.cons (.str "&") (.cons (.str "^") .nil))))))) (.bin .mod (.bin .fdiv (.var 4) (.int 97)) (.int 6))))
 (.cons (.ret (.tup (.cons (.ix (.var 2) (.var 1)) (.cons (.str "sum") (.cons (.ix (.var 3) (.bin .mod (.bin .fdiv (.var 4) (.int 389)) (.int 4))) (.cons (.var 5) (.cons (.var 8) (.cons (.var 6) .nil))))))))
 .nil)) .nil)
 b_Lrow_3)))))
theorem c_Lrow:chkSs (ck0 N_Lrow s_Lrow FN GN BN) b_Lrow (defBody s_Lrow)=true:=by decide+kernel
abbrev s_Lrows:Stmt:=top 27
def N_Lrows:List Str:=["_law_cells","_law_head","_law_names_here","_law_numbers","_law_at","_law_k","_law_rows_here"]
theorem sc_Lrows:FnScope N_Lrows ["_law_cells","_law_head","_law_names_here"] (defScope s_Lrows):=⟨rfl,rfl,rfl,by decide+kernel,rfl,by decide+kernel,by decide+kernel⟩
def b_Lrows_1:Ss:=
 (.cons (.ret (.var 6))
 .nil)
def b_Lrows_2:Ss:=
 (.cons (.set [6] (.comp ["_law_k","_law_cells","_law_numbers","_law_names_here"] [none,(some 0),(some 3),(some 2)] [0] (.rng1 (.bf .len (.cons (.var 0) .nil))) .no (.call 18 (.cons (.ix (.var 1) (.var 0)) (.cons (.var 0) (.cons (.var 2) (.cons (.var 3) .nil)))))))
 (.cons (.ite (.cmp .eq (.bin .mod (.bin .fdiv (.var 1) (.int 3600)) (.int 3)) (.int 0)) (.cons (.expr (.mt .append (.var 6) (.cons (.tup (.cons (.ix (.var 3) (.neg (.int 1))) (.cons (.str "jump") (.cons (.ix (.var 3) (.bin .mod (.bin .fdiv (.var 1) (.int 10800)) (.bf .len (.cons (.var 3) .nil)))) .nil)))) .nil)))
 .nil) (.cons (.expr (.mt .append (.var 6) (.cons (.tup (.cons (.ix (.var 3) (.neg (.int 1))) (.cons (.str "end") .nil))) .nil)))
 .nil))
 b_Lrows_1))
def b_Lrows_3:Ss:=
 (.cons (.expr (.mt .append (.var 3) (.cons (.var 4) .nil)))
 (.cons (.set [4] (.bin .add (.bin .add (.var 4) (.int 1)) (.bin .mod (.call 14 (.cons (.var 1) (.cons (.var 5) .nil))) (.ix (.lst (.cons (.int 1) (.cons (.int 10) (.cons (.int 97) .nil)))) (.bin .mod (.bin .fdiv (.var 1) (.int 1200)) (.int 3))))))
 .nil))
def b_Lrows:Ss:=
 (.cons (.set [3] (.lst .nil))
 (.cons (.set [4] (.bin .add (.int 1) (.bin .mod (.bin .fdiv (.var 1) (.int 4)) (.int 300))))
 (.cons (.for_ [5] (.rng1 (.bin .add (.bf .len (.cons (.var 0) .nil)) (.int 1))) b_Lrows_3)
 b_Lrows_2)))
theorem c_Lrows:chkSs (ck0 N_Lrows s_Lrows FN GN BN) b_Lrows (defBody s_Lrows)=true:=by decide+kernel
abbrev s_Lmemory:Stmt:=top 28
def N_Lmemory:List Str:=["_law_cell_here","_law_names_here","_law_memory_here","_law_k","_law_number"]
theorem sc_Lmemory:FnScope N_Lmemory ["_law_cell_here","_law_names_here"] (defScope s_Lmemory):=⟨rfl,rfl,rfl,by decide+kernel,rfl,by decide+kernel,by decide+kernel⟩
def b_Lmemory_1:Ss:=
 (.cons (.ret (.var 2))
 .nil)
def b_Lmemory_2:Ss:=
 (.cons (.ite (.cmp .gt (.bin .mod (.var 4) (.int 4)) (.int 1)) (.cons (.put (.var 2) (.ix (.var 1) (.var 3)) (.bin .sub (.bin .mod (.bin .fdiv (.var 4) (.int 4)) (.int 19)) (.int 9)))
 .nil) .nil)
 .nil)
def b_Lmemory_3:Ss:=
 (.cons (.set [4] (.call 14 (.cons (.var 0) (.cons (.var 3) .nil))))
 (.cons (.ite (.cmp .eq (.bin .mod (.var 4) (.int 4)) (.int 0)) (.cons (.put (.var 2) (.ix (.var 1) (.var 3)) (.call 16 (.cons (.bin .add (.var 0) (.var 4)) .nil)))
 .nil) .nil)
 b_Lmemory_2))
def b_Lmemory:Ss:=
 (.cons (.set [2] .dict0)
 (.cons (.for_ [3] (.rng1 (.int 4)) b_Lmemory_3)
 b_Lmemory_1))
theorem c_Lmemory:chkSs (ck0 N_Lmemory s_Lmemory FN GN BN) b_Lmemory (defBody s_Lmemory)=true:=by decide+kernel
abbrev s_Lalike:Stmt:=top 29
def N_Lalike:List Str:=["_law_found","_law_due","_law_k"]
theorem sc_Lalike:FnScope N_Lalike ["_law_found","_law_due"] (defScope s_Lalike):=⟨rfl,rfl,rfl,by decide+kernel,rfl,by decide+kernel,by decide+kernel⟩
def b_Lalike_1:Ss:=
 (.cons (.ret (.bl true))
 .nil)
def b_Lalike_2:Ss:=
 (.cons (.ite (.not (.call 21 (.cons (.ix (.var 0) (.var 2)) (.cons (.ix (.var 1) (.var 2)) .nil)))) (.cons (.ret (.bl false))
 .nil) .nil)
 .nil)
def b_Lalike_3:Ss:=
 (.cons (.for_ [2] (.rng1 (.bf .len (.cons (.var 1) .nil))) b_Lalike_2)
 b_Lalike_1)
def b_Lalike_4:Ss:=
 (.cons (.ite (.cmp .ne (.bf .len (.cons (.var 0) .nil)) (.bf .len (.cons (.var 1) .nil))) (.cons (.ret (.bl false))
 .nil) .nil)
 b_Lalike_3)
def b_Lalike_5:Ss:=
 (.cons (.ite (.bop false (.cons (.bop true (.cons (.bf .isinst (.cons (.var 1) (.cons (.ty .tuple) .nil))) (.cons (.not (.bf .isinst (.cons (.var 0) (.cons (.ty .tuple) .nil)))) .nil))) (.cons (.bop true (.cons (.bf .isinst (.cons (.var 1) (.cons (.ty .list) .nil))) (.cons (.not (.bf .isinst (.cons (.var 0) (.cons (.ty .list) .nil)))) .nil))) .nil))) (.cons (.ret (.bl false))
 .nil) .nil)
 b_Lalike_4)
def b_Lalike_6:Ss:=
 (.cons (.ite (.bf .isinst (.cons (.var 1) (.cons (.ty .str) .nil))) (.cons (.ret (.bop true (.cons (.bf .isinst (.cons (.var 0) (.cons (.ty .str) .nil))) (.cons (.cmp .eq (.var 0) (.var 1)) .nil))))
 .nil) .nil)
 b_Lalike_5)
def b_Lalike_7:Ss:=
 (.cons (.ite (.bf .isinst (.cons (.var 1) (.cons (.ty .int) .nil))) (.cons (.ret (.bop true (.cons (.bf .isinst (.cons (.var 0) (.cons (.ty .int) .nil))) (.cons (.not (.bf .isinst (.cons (.var 0) (.cons (.ty .bool) .nil)))) (.cons (.cmp .eq (.var 0) (.var 1)) .nil)))))
 .nil) .nil)
 b_Lalike_6)
def b_Lalike:Ss:=
 (.cons (.ite (.bf .isinst (.cons (.var 1) (.cons (.ty .bool) .nil))) (.cons (.ret (.bop true (.cons (.bf .isinst (.cons (.var 0) (.cons (.ty .bool) .nil))) (.cons (.cmp .eq (.var 0) (.var 1)) .nil))))
 .nil) .nil)
 b_Lalike_7)
theorem c_Lalike:chkSs (ck0 N_Lalike s_Lalike FN GN BN) b_Lalike (defBody s_Lalike)=true:=by decide+kernel
abbrev s_Lsame_memory:Stmt:=top 30
def N_Lsame_memory:List Str:=["_law_found","_law_due","_law_name"]
theorem sc_Lsame_memory:FnScope N_Lsame_memory ["_law_found","_law_due"] (defScope s_Lsame_memory):=⟨rfl,rfl,rfl,by decide+kernel,rfl,by decide+kernel,by decide+kernel⟩
def b_Lsame_memory_1:Ss:=
 (.cons (.ret (.bl true))
 .nil)
def b_Lsame_memory_2:Ss:=
 (.cons (.ite (.bop false (.cons (.cmp .notin (.var 2) (.var 0)) (.cons (.not (.call 21 (.cons (.ix (.var 0) (.var 2)) (.cons (.ix (.var 1) (.var 2)) .nil)))) .nil))) (.cons (.ret (.bl false))
 .nil) .nil)
 .nil)
def b_Lsame_memory_3:Ss:=
 (.cons (.forK [2] (.var 1) b_Lsame_memory_2)
 b_Lsame_memory_1)
def b_Lsame_memory:Ss:=
 (.cons (.ite (.bop false (.cons (.not (.bf .isinst (.cons (.var 0) (.cons (.ty .dict) .nil)))) (.cons (.cmp .ne (.bf .len (.cons (.var 0) .nil)) (.bf .len (.cons (.var 1) .nil))) .nil))) (.cons (.ret (.bl false))
 .nil) .nil)
 b_Lsame_memory_3)
theorem c_Lsame_memory:chkSs (ck0 N_Lsame_memory s_Lsame_memory FN GN BN) b_Lsame_memory (defBody s_Lsame_memory)=true:=by decide+kernel
abbrev s_Lworth:Stmt:=top 31
def N_Lworth:List Str:=["_law_operand_here","_law_memory_here"]
theorem sc_Lworth:FnScope N_Lworth ["_law_operand_here","_law_memory_here"] (defScope s_Lworth):=⟨rfl,rfl,rfl,by decide+kernel,rfl,by decide+kernel,by decide+kernel⟩
def b_Lworth_1:Ss:=
 (.cons (.ret (.var 0))
 .nil)
def b_Lworth:Ss:=
 (.cons (.ite (.bf .isinst (.cons (.var 0) (.cons (.ty .str) .nil))) (.cons (.ret (.mt .get2 (.var 1) (.cons (.var 0) (.cons (.int 0) .nil))))
 .nil) .nil)
 b_Lworth_1)
theorem c_Lworth:chkSs (ck0 N_Lworth s_Lworth FN GN BN) b_Lworth (defBody s_Lworth)=true:=by decide+kernel
abbrev s_Lsum:Stmt:=top 32
def N_Lsum:List Str:=["_law_sign","_law_one","_law_other"]
theorem sc_Lsum:FnScope N_Lsum ["_law_sign","_law_one","_law_other"] (defScope s_Lsum):=⟨rfl,rfl,rfl,by decide+kernel,rfl,by decide+kernel,by decide+kernel⟩
def b_Lsum_1:Ss:=
 (.cons (.ret (.bin .bxor (.var 1) (.var 2)))
 .nil)
def b_Lsum_2:Ss:=
 (.cons (.ite (.cmp .eq (.var 0) (.str "&")) (.cons (.ret (.bin .band (.var 1) (.var 2)))
 .nil) .nil)
 b_Lsum_1)
def b_Lsum_3:Ss:=
 (.cons (.ite (.cmp .eq (.var 0) (.str "rest")) (.cons (.ret (.bin .mod (.var 1) (.var 2)))
 .nil) .nil)
 b_Lsum_2)
def b_Lsum_4:Ss:=
 (.cons (.ite (.cmp .eq (.var 0) (.str "/")) (.cons (.ret (.bin .fdiv (.var 1) (.var 2)))
 .nil) .nil)
 b_Lsum_3)
def b_Lsum_5:Ss:=
 (.cons (.ite (.cmp .eq (.var 0) (.str "-")) (.cons (.ret (.bin .sub (.var 1) (.var 2)))
 .nil) .nil)
 b_Lsum_4)
def b_Lsum:Ss:=
 (.cons (.ite (.cmp .eq (.var 0) (.str "+")) (.cons (.ret (.bin .add (.var 1) (.var 2)))
 .nil) .nil)
 b_Lsum_5)
theorem c_Lsum:chkSs (ck0 N_Lsum s_Lsum FN GN BN) b_Lsum (defBody s_Lsum)=true:=by decide+kernel
abbrev s_Ldeed:Stmt:=top 33
def N_Ldeed:List Str:=["_law_row_here","_law_memory_here","_law_one","_law_other"]
theorem sc_Ldeed:FnScope N_Ldeed ["_law_row_here","_law_memory_here"] (defScope s_Ldeed):=⟨rfl,rfl,rfl,by decide+kernel,rfl,by decide+kernel,by decide+kernel⟩
def b_Ldeed_1:Ss:=
 (.cons (.ret (.tup (.cons (.str "sum") (.cons (.ix (.var 0) (.int 2)) (.cons (.var 2) (.cons (.ix (.var 0) (.int 4)) (.cons (.var 3) (.cons (.call 24 (.cons (.ix (.var 0) (.int 4)) (.cons (.var 2) (.cons (.var 3) .nil)))) .nil))))))))
 .nil)
def b_Ldeed_2:Ss:=
 (.cons (.set [2] (.call 23 (.cons (.ix (.var 0) (.int 3)) (.cons (.var 1) .nil))))
 (.cons (.set [3] (.call 23 (.cons (.ix (.var 0) (.int 5)) (.cons (.var 1) .nil))))
 (.cons (.ite (.bop true (.cons (.cmp .eq (.var 3) (.int 0)) (.cons (.cmp .isin (.ix (.var 0) (.int 4)) (.lst (.cons (.str "/") (.cons (.str "rest") .nil)))) .nil))) (.cons (.ret .non)
 .nil) .nil)
 b_Ldeed_1)))
def b_Ldeed:Ss:=
 (.cons (.ite (.cmp .eq (.ix (.var 0) (.int 1)) (.str "test")) (.cons (.set [2] (.call 23 (.cons (.ix (.var 0) (.int 2)) (.cons (.var 1) .nil))))
 (.cons (.set [3] (.call 23 (.cons (.ix (.var 0) (.int 4)) (.cons (.var 1) .nil))))
 (.cons (.ret (.tup (.cons (.str "test") (.cons (.var 2) (.cons (.ix (.var 0) (.int 3)) (.cons (.var 3) (.cons (.bop false (.cons (.bop true (.cons (.cmp .eq (.ix (.var 0) (.int 3)) (.str "<")) (.cons (.cmp .lt (.var 2) (.var 3)) .nil))) (.cons (.bop true (.cons (.cmp .eq (.ix (.var 0) (.int 3)) (.str "=")) (.cons (.cmp .eq (.var 2) (.var 3)) .nil))) .nil))) .nil)))))))
 .nil))) .nil)
 b_Ldeed_2)
theorem c_Ldeed:chkSs (ck0 N_Ldeed s_Ldeed FN GN BN) b_Ldeed (defBody s_Ldeed)=true:=by decide+kernel
abbrev s_Lrun:Stmt:=top 34
def N_Lrun:List Str:=["_law_rows_here","_law_memory_here","_law_most","_law_places","_law_k","_law_deeds","_law_at","_law_idle","_law_row_here","_law_deed_here"]
theorem sc_Lrun:FnScope N_Lrun ["_law_rows_here","_law_memory_here","_law_most"] (defScope s_Lrun):=⟨rfl,rfl,rfl,by decide+kernel,rfl,by decide+kernel,by decide+kernel⟩
def b_Lrun_1:Ss:=
 (.cons (.ret (.tup (.cons (.var 5) (.cons (.str "on") (.cons (.var 1) .nil)))))
 .nil)
def b_Lrun_2:Ss:=
 (.cons (.expr (.mt .append (.var 5) (.cons (.var 9) .nil)))
 (.cons (.set [6] (.bin .add (.var 6) (.int 1)))
 (.cons (.ite (.cmp .eq (.ix (.var 8) (.int 1)) (.str "sum")) (.cons (.put (.var 1) (.ix (.var 8) (.int 2)) (.ix (.var 9) (.int 5)))
 .nil) (.cons (.ite (.ix (.var 9) (.int 4)) (.cons (.set [6] (.ix (.var 3) (.ix (.var 8) (.int 5))))
 .nil) .nil)
 .nil))
 .nil)))
def b_Lrun_3:Ss:=
 (.cons (.set [7] (.int 0))
 (.cons (.set [9] (.call 25 (.cons (.var 8) (.cons (.var 1) .nil))))
 (.cons (.ite (.cmp .is (.var 9) .non) (.cons (.ret (.tup (.cons (.var 5) (.cons (.str "fault") (.cons (.var 1) .nil)))))
 .nil) .nil)
 b_Lrun_2)))
def b_Lrun_4:Ss:=
 (.cons (.ite (.cmp .ge (.bf .len (.cons (.var 5) .nil)) (.var 2)) (.cons (.ret (.tup (.cons (.var 5) (.cons (.str "on") (.cons (.var 1) .nil)))))
 .nil) .nil)
 b_Lrun_3)
def b_Lrun_5:Ss:=
 (.cons (.ite (.cmp .eq (.ix (.var 8) (.int 1)) (.str "jump")) (.cons (.set [6] (.ix (.var 3) (.ix (.var 8) (.int 2))))
 (.cons .cont
 .nil)) .nil)
 b_Lrun_4)
def b_Lrun_6:Ss:=
 (.cons (.set [8] (.ix (.var 0) (.var 6)))
 (.cons (.set [7] (.bin .add (.var 7) (.int 1)))
 (.cons (.ite (.cmp .eq (.ix (.var 8) (.int 1)) (.str "end")) (.cons (.ret (.tup (.cons (.var 5) (.cons (.str "end") (.cons (.var 1) .nil)))))
 .nil) .nil)
 b_Lrun_5)))
def b_Lrun_7:Ss:=
 (.cons (.set [1] (.bf .dict1 (.cons (.var 1) .nil)))
 (.cons (.set [5] (.lst .nil))
 (.cons (.set [6] (.int 0))
 (.cons (.set [7] (.int 0))
 (.cons (.while_ (.cmp .le (.var 7) (.bf .len (.cons (.var 0) .nil))) b_Lrun_6)
 b_Lrun_1)))))
def b_Lrun_8:Ss:=
 (.cons (.put (.var 3) (.ix (.ix (.var 0) (.var 4)) (.int 0)) (.var 4))
 .nil)
def b_Lrun:Ss:=
 (.cons (.set [3] .dict0)
 (.cons (.for_ [4] (.rng1 (.bf .len (.cons (.var 0) .nil))) b_Lrun_8)
 b_Lrun_7))
theorem c_Lrun:chkSs (ck0 N_Lrun s_Lrun FN GN BN) b_Lrun (defBody s_Lrun)=true:=by decide+kernel
abbrev s_Lfits:Stmt:=top 35
def N_Lfits:List Str:=["_law_found","_law_due"]
theorem sc_Lfits:FnScope N_Lfits ["_law_found","_law_due"] (defScope s_Lfits):=⟨rfl,rfl,rfl,by decide+kernel,rfl,by decide+kernel,by decide+kernel⟩
def b_Lfits_1:Ss:=
 (.cons (.ret (.call 22 (.cons (.ix (.var 0) (.int 2)) (.cons (.ix (.var 1) (.int 2)) .nil))))
 .nil)
def b_Lfits_2:Ss:=
 (.cons (.ite (.bop false (.cons (.not (.call 21 (.cons (.ix (.var 0) (.int 0)) (.cons (.ix (.var 1) (.int 0)) .nil)))) (.cons (.not (.call 21 (.cons (.ix (.var 0) (.int 1)) (.cons (.ix (.var 1) (.int 1)) .nil)))) .nil))) (.cons (.ret (.bl false))
 .nil) .nil)
 b_Lfits_1)
def b_Lfits:Ss:=
 (.cons (.ite (.bop false (.cons (.not (.bf .isinst (.cons (.var 0) (.cons (.ty .tuple) .nil)))) (.cons (.cmp .ne (.bf .len (.cons (.var 0) .nil)) (.int 3)) .nil))) (.cons (.ret (.bl false))
 .nil) .nil)
 b_Lfits_2)
theorem c_Lfits:chkSs (ck0 N_Lfits s_Lfits FN GN BN) b_Lfits (defBody s_Lfits)=true:=by decide+kernel
abbrev s_law:Stmt:=top 36
def N_law:List Str:=["_law_script","_law_head","_law_names_here","_law_rows_here","_law_memory_here","_law_most","_law_due","_law_handed","_law_found","_law_other"]
theorem sc_law:FnScope N_law ["_law_script"] (defScope s_law):=⟨rfl,rfl,rfl,by decide+kernel,rfl,by decide+kernel,by decide+kernel⟩
def b_law_1:Ss:=
 (.cons (.ret (.bop true (.cons (.call 27 (.cons (.call 12 (.cons (.var 3) (.cons (.var 4) (.cons (.var 5) .nil)))) (.cons (.var 6) .nil))) (.cons (.call 27 (.cons (.var 8) (.cons (.var 6) .nil))) .nil))))
 .nil)
def b_law_2:Ss:=
 (.cons (.expr (.mt .clear (.ix (.var 7) (.int 0)) .nil))
 (.cons (.expr (.mt .clearD (.ix (.var 7) (.int 1)) .nil))
 (.cons (.set [9] (.call 12 (.cons (.lst (.cons (.tup (.cons (.int 7) (.cons (.str "sum") (.cons (.ix (.var 2) (.int 0)) (.cons (.int 5) (.cons (.str "+") (.cons (.ix (.var 2) (.int 1)) .nil))))))) (.cons (.tup (.cons (.int 9) (.cons (.str "end") .nil))) .nil))) (.cons (.dct (.ix (.var 2) (.int 1)) (.int 4)) (.cons (.int 3) .nil)))))
 (.cons (.ite (.not (.call 27 (.cons (.var 9) (.cons (.tup (.cons (.lst (.cons (.tup (.cons (.str "sum") (.cons (.ix (.var 2) (.int 0)) (.cons (.int 5) (.cons (.str "+") (.cons (.int 4) (.cons (.int 9) .nil))))))) .nil)) (.cons (.str "end") (.cons (.dct2 (.ix (.var 2) (.int 1)) (.int 4) (.ix (.var 2) (.int 0)) (.int 9)) .nil)))) .nil)))) (.cons (.ret (.bl false))
 .nil) .nil)
 b_law_1))))
def b_law:Ss:=
 (.cons (.set [1] (.call 13 (.cons (.var 0) (.cons (.int 0) .nil))))
 (.cons (.set [2] (.call 15 (.cons (.call 14 (.cons (.call 13 (.cons (.var 0) (.cons (.int 1) .nil))) (.cons (.int 1) .nil))) .nil)))
 (.cons (.set [3] (.call 19 (.cons (.sl (.var 0) (.yes (.int 3)) (.yes (.int 63))) (.cons (.var 1) (.cons (.var 2) .nil)))))
 (.cons (.set [4] (.call 20 (.cons (.call 13 (.cons (.var 0) (.cons (.int 1) .nil))) (.cons (.var 2) .nil))))
 (.cons (.set [5] (.bin .mod (.call 14 (.cons (.call 13 (.cons (.var 0) (.cons (.int 2) .nil))) (.cons (.int 2) .nil))) (.int 120)))
 (.cons (.set [6] (.call 26 (.cons (.var 3) (.cons (.var 4) (.cons (.var 5) .nil)))))
 (.cons (.set [7] (.lst (.cons (.bf .list1 (.cons (.var 3) .nil)) (.cons (.bf .dict1 (.cons (.var 4) .nil)) .nil))))
 (.cons (.set [8] (.call 12 (.cons (.ix (.var 7) (.int 0)) (.cons (.ix (.var 7) (.int 1)) (.cons (.var 5) .nil)))))
 (.cons (.ite (.bop false (.cons (.not (.call 27 (.cons (.var 8) (.cons (.var 6) .nil)))) (.cons (.not (.call 21 (.cons (.ix (.var 7) (.int 0)) (.cons (.var 3) .nil)))) (.cons (.not (.call 22 (.cons (.ix (.var 7) (.int 1)) (.cons (.var 4) .nil)))) .nil)))) (.cons (.ret (.bl false))
 .nil) .nil)
 b_law_2)))))))))
theorem c_law:chkSs (ck0 N_law s_law FN GN BN) b_law (defBody s_law)=true:=by decide+kernel
def clsDef:Stmt→Stmt
 | .ClassDef _ _ _ (b::_) _ _ _ _ _ _ _=>b
 | s=>s
abbrev s_init:Stmt:=clsDef (top 1)
theorem sc_init:FnScope ["self","row"] ["self","row"] (defScope s_init):=⟨rfl,rfl,rfl,by decide+kernel,rfl,by decide+kernel,by decide+kernel⟩
theorem ib_init:initB s_init=true:=by decide+kernel
set_option genInjectivity false in
structure Adr where
 mk::
 a_quotient:Addr
 d_quotient:FuncData
 a_rest:Addr
 d_rest:FuncData
 a_made:Addr
 d_made:FuncData
 a_holds:Addr
 d_holds:FuncData
 a_worth:Addr
 d_worth:FuncData
 a_deed_of_sum:Addr
 d_deed_of_sum:FuncData
 a_deed_of_test:Addr
 d_deed_of_test:FuncData
 a_behind:Addr
 d_behind:FuncData
 a_deed_of:Addr
 d_deed_of:FuncData
 a_run_from:Addr
 d_run_from:FuncData
 a_landings:Addr
 d_landings:FuncData
 a_linked:Addr
 d_linked:FuncData
 a_run:Addr
 d_run:FuncData
 a_Lcell:Addr
 d_Lcell:FuncData
 a_Lmixed:Addr
 d_Lmixed:FuncData
 a_Lnames:Addr
 d_Lnames:FuncData
 a_Lgreat:Addr
 d_Lgreat:FuncData
 a_Loperand:Addr
 d_Loperand:FuncData
 a_Lrow:Addr
 d_Lrow:FuncData
 a_Lrows:Addr
 d_Lrows:FuncData
 a_Lmemory:Addr
 d_Lmemory:FuncData
 a_Lalike:Addr
 d_Lalike:FuncData
 a_Lsame_memory:Addr
 d_Lsame_memory:FuncData
 a_Lworth:Addr
 d_Lworth:FuncData
 a_Lsum:Addr
 d_Lsum:FuncData
 a_Ldeed:Addr
 d_Ldeed:FuncData
 a_Lrun:Addr
 d_Lrun:FuncData
 a_Lfits:Addr
 d_Lfits:FuncData
 a_law:Addr
 d_law:FuncData
 a_JumpError:Addr
 a_ByNought:Addr
 a_init:Addr
 d_init:FuncData
structure Tx(K:PySem.W.Frag)(mg:Str→Option Value)(t:Adr):Prop where
 mk::
 F_quotient:Fun K "quotient" "quotient" s_quotient t.a_quotient t.d_quotient
 g_quotient:mg "quotient"=some (.ref t.a_quotient)
 k_quotient:PySem.W.keepIn K (.ref t.a_quotient)=true
 b_quotient:Binds K t.d_quotient ["one","other"] []
 F_rest:Fun K "rest" "rest" s_rest t.a_rest t.d_rest
 g_rest:mg "rest"=some (.ref t.a_rest)
 k_rest:PySem.W.keepIn K (.ref t.a_rest)=true
 b_rest:Binds K t.d_rest ["one","other"] []
 F_made:Fun K "made" "made" s_made t.a_made t.d_made
 g_made:mg "made"=some (.ref t.a_made)
 k_made:PySem.W.keepIn K (.ref t.a_made)=true
 b_made:Binds K t.d_made ["sign","one","other"] []
 F_holds:Fun K "holds" "holds" s_holds t.a_holds t.d_holds
 g_holds:mg "holds"=some (.ref t.a_holds)
 k_holds:PySem.W.keepIn K (.ref t.a_holds)=true
 b_holds:Binds K t.d_holds ["sign","one","other"] []
 F_worth:Fun K "worth" "worth" s_worth t.a_worth t.d_worth
 g_worth:mg "worth"=some (.ref t.a_worth)
 k_worth:PySem.W.keepIn K (.ref t.a_worth)=true
 b_worth:Binds K t.d_worth ["operand","memory"] []
 F_deed_of_sum:Fun K "deed_of_sum" "deed_of_sum" s_deed_of_sum t.a_deed_of_sum t.d_deed_of_sum
 g_deed_of_sum:mg "deed_of_sum"=some (.ref t.a_deed_of_sum)
 k_deed_of_sum:PySem.W.keepIn K (.ref t.a_deed_of_sum)=true
 b_deed_of_sum:Binds K t.d_deed_of_sum ["name","one","sign","other","memory"] []
 F_deed_of_test:Fun K "deed_of_test" "deed_of_test" s_deed_of_test t.a_deed_of_test t.d_deed_of_test
 g_deed_of_test:mg "deed_of_test"=some (.ref t.a_deed_of_test)
 k_deed_of_test:PySem.W.keepIn K (.ref t.a_deed_of_test)=true
 b_deed_of_test:Binds K t.d_deed_of_test ["one","sign","other","memory"] []
 F_behind:Fun K "behind" "behind" s_behind t.a_behind t.d_behind
 g_behind:mg "behind"=some (.ref t.a_behind)
 k_behind:PySem.W.keepIn K (.ref t.a_behind)=true
 b_behind:Binds K t.d_behind ["node","deed","memory"] []
 F_deed_of:Fun K "deed_of" "deed_of" s_deed_of t.a_deed_of t.d_deed_of
 g_deed_of:mg "deed_of"=some (.ref t.a_deed_of)
 k_deed_of:PySem.W.keepIn K (.ref t.a_deed_of)=true
 b_deed_of:Binds K t.d_deed_of ["node","memory"] []
 F_run_from:Fun K "run_from" "run_from" s_run_from t.a_run_from t.d_run_from
 g_run_from:mg "run_from"=some (.ref t.a_run_from)
 k_run_from:PySem.W.keepIn K (.ref t.a_run_from)=true
 b_run_from:Binds K t.d_run_from ["nodes","start","memory","most"] []
 F_landings:Fun K "landings" "landings" s_landings t.a_landings t.d_landings
 g_landings:mg "landings"=some (.ref t.a_landings)
 k_landings:PySem.W.keepIn K (.ref t.a_landings)=true
 b_landings:Binds K t.d_landings ["rows","places"] []
 F_linked:Fun K "linked" "linked" s_linked t.a_linked t.d_linked
 g_linked:mg "linked"=some (.ref t.a_linked)
 k_linked:PySem.W.keepIn K (.ref t.a_linked)=true
 b_linked:Binds K t.d_linked ["rows"] []
 F_run:Fun K "run" "run" s_run t.a_run t.d_run
 g_run:mg "run"=some (.ref t.a_run)
 k_run:PySem.W.keepIn K (.ref t.a_run)=true
 b_run:Binds K t.d_run ["rows","memory","most"] []
 e_run:∃tk,Binds K t.d_run ["rows","memory","most"] [.int 100 tk]
 F_Lcell:Fun K "_law_cell" "_law_cell" s_Lcell t.a_Lcell t.d_Lcell
 g_Lcell:mg "_law_cell"=some (.ref t.a_Lcell)
 k_Lcell:PySem.W.keepIn K (.ref t.a_Lcell)=true
 b_Lcell:Binds K t.d_Lcell ["_law_script","_law_k"] []
 F_Lmixed:Fun K "_law_mixed" "_law_mixed" s_Lmixed t.a_Lmixed t.d_Lmixed
 g_Lmixed:mg "_law_mixed"=some (.ref t.a_Lmixed)
 k_Lmixed:PySem.W.keepIn K (.ref t.a_Lmixed)=true
 b_Lmixed:Binds K t.d_Lmixed ["_law_cell_here","_law_k"] []
 F_Lnames:Fun K "_law_names" "_law_names" s_Lnames t.a_Lnames t.d_Lnames
 g_Lnames:mg "_law_names"=some (.ref t.a_Lnames)
 k_Lnames:PySem.W.keepIn K (.ref t.a_Lnames)=true
 b_Lnames:Binds K t.d_Lnames ["_law_number"] []
 F_Lgreat:Fun K "_law_great" "_law_great" s_Lgreat t.a_Lgreat t.d_Lgreat
 g_Lgreat:mg "_law_great"=some (.ref t.a_Lgreat)
 k_Lgreat:PySem.W.keepIn K (.ref t.a_Lgreat)=true
 b_Lgreat:Binds K t.d_Lgreat ["_law_number"] []
 F_Loperand:Fun K "_law_operand" "_law_operand" s_Loperand t.a_Loperand t.d_Loperand
 g_Loperand:mg "_law_operand"=some (.ref t.a_Loperand)
 k_Loperand:PySem.W.keepIn K (.ref t.a_Loperand)=true
 b_Loperand:Binds K t.d_Loperand ["_law_number","_law_cell_here","_law_names_here"] []
 F_Lrow:Fun K "_law_row" "_law_row" s_Lrow t.a_Lrow t.d_Lrow
 g_Lrow:mg "_law_row"=some (.ref t.a_Lrow)
 k_Lrow:PySem.W.keepIn K (.ref t.a_Lrow)=true
 b_Lrow:Binds K t.d_Lrow ["_law_cell_here","_law_k","_law_numbers","_law_names_here"] []
 F_Lrows:Fun K "_law_rows" "_law_rows" s_Lrows t.a_Lrows t.d_Lrows
 g_Lrows:mg "_law_rows"=some (.ref t.a_Lrows)
 k_Lrows:PySem.W.keepIn K (.ref t.a_Lrows)=true
 b_Lrows:Binds K t.d_Lrows ["_law_cells","_law_head","_law_names_here"] []
 F_Lmemory:Fun K "_law_memory" "_law_memory" s_Lmemory t.a_Lmemory t.d_Lmemory
 g_Lmemory:mg "_law_memory"=some (.ref t.a_Lmemory)
 k_Lmemory:PySem.W.keepIn K (.ref t.a_Lmemory)=true
 b_Lmemory:Binds K t.d_Lmemory ["_law_cell_here","_law_names_here"] []
 F_Lalike:Fun K "_law_alike" "_law_alike" s_Lalike t.a_Lalike t.d_Lalike
 g_Lalike:mg "_law_alike"=some (.ref t.a_Lalike)
 k_Lalike:PySem.W.keepIn K (.ref t.a_Lalike)=true
 b_Lalike:Binds K t.d_Lalike ["_law_found","_law_due"] []
 F_Lsame_memory:Fun K "_law_same_memory" "_law_same_memory" s_Lsame_memory t.a_Lsame_memory t.d_Lsame_memory
 g_Lsame_memory:mg "_law_same_memory"=some (.ref t.a_Lsame_memory)
 k_Lsame_memory:PySem.W.keepIn K (.ref t.a_Lsame_memory)=true
 b_Lsame_memory:Binds K t.d_Lsame_memory ["_law_found","_law_due"] []
 F_Lworth:Fun K "_law_worth" "_law_worth" s_Lworth t.a_Lworth t.d_Lworth
 g_Lworth:mg "_law_worth"=some (.ref t.a_Lworth)
 k_Lworth:PySem.W.keepIn K (.ref t.a_Lworth)=true
 b_Lworth:Binds K t.d_Lworth ["_law_operand_here","_law_memory_here"] []
 F_Lsum:Fun K "_law_sum" "_law_sum" s_Lsum t.a_Lsum t.d_Lsum
 g_Lsum:mg "_law_sum"=some (.ref t.a_Lsum)
 k_Lsum:PySem.W.keepIn K (.ref t.a_Lsum)=true
 b_Lsum:Binds K t.d_Lsum ["_law_sign","_law_one","_law_other"] []
 F_Ldeed:Fun K "_law_deed" "_law_deed" s_Ldeed t.a_Ldeed t.d_Ldeed
 g_Ldeed:mg "_law_deed"=some (.ref t.a_Ldeed)
 k_Ldeed:PySem.W.keepIn K (.ref t.a_Ldeed)=true
 b_Ldeed:Binds K t.d_Ldeed ["_law_row_here","_law_memory_here"] []
 F_Lrun:Fun K "_law_run" "_law_run" s_Lrun t.a_Lrun t.d_Lrun
 g_Lrun:mg "_law_run"=some (.ref t.a_Lrun)
 k_Lrun:PySem.W.keepIn K (.ref t.a_Lrun)=true
 b_Lrun:Binds K t.d_Lrun ["_law_rows_here","_law_memory_here","_law_most"] []
 F_Lfits:Fun K "_law_fits" "_law_fits" s_Lfits t.a_Lfits t.d_Lfits
 g_Lfits:mg "_law_fits"=some (.ref t.a_Lfits)
 k_Lfits:PySem.W.keepIn K (.ref t.a_Lfits)=true
 b_Lfits:Binds K t.d_Lfits ["_law_found","_law_due"] []
 F_law:Fun K "law" "law" s_law t.a_law t.d_law
 g_law:mg "law"=some (.ref t.a_law)
 k_law:PySem.W.keepIn K (.ref t.a_law)=true
 b_law:Binds K t.d_law ["_law_script"] []
 z_isinstance:mg "isinstance"=none
 z_str:mg "str"=none
 z_len:mg "len"=none
 z_dict:mg "dict"=none
 z_range:mg "range"=none
 z_enumerate:mg "enumerate"=none
 z_list:mg "list"=none
 z_tuple:mg "tuple"=none
 z_int:mg "int"=none
 z_bool:mg "bool"=none
 g_JumpError:mg "JumpError"=some (.ref t.a_JumpError)
 g_ByNought:mg "ByNought"=some (.ref t.a_ByNought)
 mk_ByNought:ExcMk K t.a_ByNought t.a_init
 set_ByNought:ExcSet K t.a_ByNought "row"
 get_ByNought:ExcGet K t.a_ByNought "row"
 is_ByNought:ExcIs K t.a_ByNought
 ca_ByNought:Catch K t.a_ByNought t.a_JumpError true
 co_ByNought:Catch K t.a_ByNought t.a_ByNought true
 kit_ByNought_JumpError:PySem.W.kitOne K (.ref t.a_ByNought) (.ref t.a_JumpError)=some true
 kit_ByNought_ByNought:PySem.W.kitOne K (.ref t.a_ByNought) (.ref t.a_ByNought)=some true
 kit_ByNought:PySem.W.kitOne K (.ref t.a_ByNought) (.type "ValueError")=some true
 i_ok:∀(P:Program) (w:World) (mg:Str→Option Value) (base:Heap),FnOk P w K mg base CX0 1 t.a_init t.d_init ["self","row"] (spInit K)
 i_b1:Binds K t.d_init ["self","row"] [.none]
 i_b0:Binds K t.d_init ["self","row"] []
theorem ents{K:PySem.W.Frag}{mg:Str→Option Value}{t:Adr}(T:Tx K mg t):∀x∈FN,Ent K mg x:=
 all_cons ⟨_,_,_,T.g_quotient,T.k_quotient,T.b_quotient⟩ (all_cons ⟨_,_,_,T.g_rest,T.k_rest,T.b_rest⟩ (all_cons ⟨_,_,_,T.g_made,T.k_made,T.b_made⟩ (all_cons ⟨_,_,_,T.g_holds,T.k_holds,T.b_holds⟩ (all_cons ⟨_,_,_,T.g_worth,T.k_worth,T.b_worth⟩ (all_cons ⟨_,_,_,T.g_deed_of_sum,T.k_deed_of_sum,T.b_deed_of_sum⟩ (all_cons ⟨_,_,_,T.g_deed_of_test,T.k_deed_of_test,T.b_deed_of_test⟩ (all_cons ⟨_,_,_,T.g_behind,T.k_behind,T.b_behind⟩ (all_cons ⟨_,_,_,T.g_deed_of,T.k_deed_of,T.b_deed_of⟩ (all_cons ⟨_,_,_,T.g_run_from,T.k_run_from,T.b_run_from⟩ (all_cons ⟨_,_,_,T.g_landings,T.k_landings,T.b_landings⟩ (all_cons ⟨_,_,_,T.g_linked,T.k_linked,T.b_linked⟩ (all_cons ⟨_,_,_,T.g_run,T.k_run,T.b_run⟩ (all_cons ⟨_,_,_,T.g_Lcell,T.k_Lcell,T.b_Lcell⟩ (all_cons ⟨_,_,_,T.g_Lmixed,T.k_Lmixed,T.b_Lmixed⟩ (all_cons ⟨_,_,_,T.g_Lnames,T.k_Lnames,T.b_Lnames⟩ (all_cons ⟨_,_,_,T.g_Lgreat,T.k_Lgreat,T.b_Lgreat⟩ (all_cons ⟨_,_,_,T.g_Loperand,T.k_Loperand,T.b_Loperand⟩ (all_cons ⟨_,_,_,T.g_Lrow,T.k_Lrow,T.b_Lrow⟩ (all_cons ⟨_,_,_,T.g_Lrows,T.k_Lrows,T.b_Lrows⟩ (all_cons ⟨_,_,_,T.g_Lmemory,T.k_Lmemory,T.b_Lmemory⟩ (all_cons ⟨_,_,_,T.g_Lalike,T.k_Lalike,T.b_Lalike⟩ (all_cons ⟨_,_,_,T.g_Lsame_memory,T.k_Lsame_memory,T.b_Lsame_memory⟩ (all_cons ⟨_,_,_,T.g_Lworth,T.k_Lworth,T.b_Lworth⟩ (all_cons ⟨_,_,_,T.g_Lsum,T.k_Lsum,T.b_Lsum⟩ (all_cons ⟨_,_,_,T.g_Ldeed,T.k_Ldeed,T.b_Ldeed⟩ (all_cons ⟨_,_,_,T.g_Lrun,T.k_Lrun,T.b_Lrun⟩ (all_cons ⟨_,_,_,T.g_Lfits,T.k_Lfits,T.b_Lfits⟩ (all_cons ⟨_,_,_,T.g_law,T.k_law,T.b_law⟩ (all_cons ⟨_,_,_,T.g_run,T.k_run,T.b_run⟩ all_nil)))))))))))))))))))))))))))))
theorem blts{K:PySem.W.Frag}{mg:Str→Option Value}{t:Adr}(T:Tx K mg t):∀x∈BN,mg x=none:=
 all_cons T.z_isinstance (all_cons T.z_str (all_cons T.z_len (all_cons T.z_dict (all_cons T.z_range (all_cons T.z_enumerate (all_cons T.z_list (all_cons T.z_tuple (all_cons T.z_int (all_cons T.z_bool all_nil)))))))))
set_option maxHeartbeats 0 in
theorem tx_mk{K:PySem.W.Frag}{h:Heap}{mg:Str→Option Value}{f0 f1 f2 f3 f4 f5 f6 f7 f8 f9 f10 f11 f12 f13 f14 f15 f16 f17 f18 f19 f20 f21 f22 f23 f24 f25 f26 f27 f28 td12:Addr}(X:K.In h)(G:h.Ns mainGlobals mg)
  {od0 an0 od1 an1 od2 an2 od3 an3 od4 an4 od5 an5 od6 an6 od7 an7 od8 an8 od9 an9 od10 an10 od11 an11 od12 an12 od13 an13 od14 an14 od15 an15 od16 an16 od17 an17 od18 an18 od19 an19 od20 an20 od21 an21 od22 an22 od23 an23 od24 an24 od25 an25 od26 an26 od27 an27 od28 an28:Option Addr} {sl0 sl1 sl2 sl3 sl4 sl5 sl6 sl7 sl8 sl9 sl10 sl11 sl12 sl13 sl14 sl15 sl16 sl17 sl18 sl19 sl20 sl21 sl22 sl23 sl24 sl25 sl26 sl27 sl28:Array (Option Value)} {oc0 kV0 dc0 pm0 cd0 ct0 oc1 kV1 dc1 pm1 cd1 ct1 oc2 kV2 dc2 pm2 cd2 ct2 oc3 kV3 dc3 pm3 cd3 ct3 oc4 kV4 dc4 pm4 cd4 ct4 oc5 kV5 dc5 pm5 cd5 ct5 oc6 kV6 dc6 pm6 cd6 ct6 oc7 kV7 dc7 pm7 cd7 ct7 oc8 kV8 dc8 pm8 cd8 ct8 oc9 kV9 dc9 pm9 cd9 ct9 oc10 kV10 dc10 pm10 cd10 ct10 oc11 kV11 dc11 pm11 cd11 ct11 oc12 kV12 dc12 pm12 cd12 ct12 oc13 kV13 dc13 pm13 cd13 ct13 oc14 kV14 dc14 pm14 cd14 ct14 oc15 kV15 dc15 pm15 cd15 ct15 oc16 kV16 dc16 pm16 cd16 ct16 oc17 kV17 dc17 pm17 cd17 ct17 oc18 kV18 dc18 pm18 cd18 ct18 oc19 kV19 dc19 pm19 cd19 ct19 oc20 kV20 dc20 pm20 cd20 ct20 oc21 kV21 dc21 pm21 cd21 ct21 oc22 kV22 dc22 pm22 cd22 ct22 oc23 kV23 dc23 pm23 cd23 ct23 oc24 kV24 dc24 pm24 cd24 ct24 oc25 kV25 dc25 pm25 cd25 ct25 oc26 kV26 dc26 pm26 cd26 ct26 oc27 kV27 dc27 pm27 cd27 ct27 oc28 kV28 dc28 pm28 cd28 ct28:Value}
  (a0:PySem.W.nsIn K mainGlobals "quotient"=some (some (.ref f0))) (l0:K.lookup f0=some ⟨oc0,od0,.func (PySem.W.fnOf "quotient" "quotient" (defArgs s_quotient) (defBody s_quotient) (defScope s_quotient) .none kV0 dc0 pm0 an0 cd0 ct0),sl0⟩) (c0:PySem.W.codeIn K cd0 "quotient"=true) (k0:PySem.W.keepIn K (.ref f0)=true)
  (a1:PySem.W.nsIn K mainGlobals "rest"=some (some (.ref f1))) (l1:K.lookup f1=some ⟨oc1,od1,.func (PySem.W.fnOf "rest" "rest" (defArgs s_rest) (defBody s_rest) (defScope s_rest) .none kV1 dc1 pm1 an1 cd1 ct1),sl1⟩) (c1:PySem.W.codeIn K cd1 "rest"=true) (k1:PySem.W.keepIn K (.ref f1)=true)
  (a2:PySem.W.nsIn K mainGlobals "made"=some (some (.ref f2))) (l2:K.lookup f2=some ⟨oc2,od2,.func (PySem.W.fnOf "made" "made" (defArgs s_made) (defBody s_made) (defScope s_made) .none kV2 dc2 pm2 an2 cd2 ct2),sl2⟩) (c2:PySem.W.codeIn K cd2 "made"=true) (k2:PySem.W.keepIn K (.ref f2)=true)
  (a3:PySem.W.nsIn K mainGlobals "holds"=some (some (.ref f3))) (l3:K.lookup f3=some ⟨oc3,od3,.func (PySem.W.fnOf "holds" "holds" (defArgs s_holds) (defBody s_holds) (defScope s_holds) .none kV3 dc3 pm3 an3 cd3 ct3),sl3⟩) (c3:PySem.W.codeIn K cd3 "holds"=true) (k3:PySem.W.keepIn K (.ref f3)=true)
  (a4:PySem.W.nsIn K mainGlobals "worth"=some (some (.ref f4))) (l4:K.lookup f4=some ⟨oc4,od4,.func (PySem.W.fnOf "worth" "worth" (defArgs s_worth) (defBody s_worth) (defScope s_worth) .none kV4 dc4 pm4 an4 cd4 ct4),sl4⟩) (c4:PySem.W.codeIn K cd4 "worth"=true) (k4:PySem.W.keepIn K (.ref f4)=true)
  (a5:PySem.W.nsIn K mainGlobals "deed_of_sum"=some (some (.ref f5))) (l5:K.lookup f5=some ⟨oc5,od5,.func (PySem.W.fnOf "deed_of_sum" "deed_of_sum" (defArgs s_deed_of_sum) (defBody s_deed_of_sum) (defScope s_deed_of_sum) .none kV5 dc5 pm5 an5 cd5 ct5),sl5⟩) (c5:PySem.W.codeIn K cd5 "deed_of_sum"=true) (k5:PySem.W.keepIn K (.ref f5)=true)
  (a6:PySem.W.nsIn K mainGlobals "deed_of_test"=some (some (.ref f6))) (l6:K.lookup f6=some ⟨oc6,od6,.func (PySem.W.fnOf "deed_of_test" "deed_of_test" (defArgs s_deed_of_test) (defBody s_deed_of_test) (defScope s_deed_of_test) .none kV6 dc6 pm6 an6 cd6 ct6),sl6⟩) (c6:PySem.W.codeIn K cd6 "deed_of_test"=true) (k6:PySem.W.keepIn K (.ref f6)=true)
  (a7:PySem.W.nsIn K mainGlobals "behind"=some (some (.ref f7))) (l7:K.lookup f7=some ⟨oc7,od7,.func (PySem.W.fnOf "behind" "behind" (defArgs s_behind) (defBody s_behind) (defScope s_behind) .none kV7 dc7 pm7 an7 cd7 ct7),sl7⟩) (c7:PySem.W.codeIn K cd7 "behind"=true) (k7:PySem.W.keepIn K (.ref f7)=true)
  (a8:PySem.W.nsIn K mainGlobals "deed_of"=some (some (.ref f8))) (l8:K.lookup f8=some ⟨oc8,od8,.func (PySem.W.fnOf "deed_of" "deed_of" (defArgs s_deed_of) (defBody s_deed_of) (defScope s_deed_of) .none kV8 dc8 pm8 an8 cd8 ct8),sl8⟩) (c8:PySem.W.codeIn K cd8 "deed_of"=true) (k8:PySem.W.keepIn K (.ref f8)=true)
  (a9:PySem.W.nsIn K mainGlobals "run_from"=some (some (.ref f9))) (l9:K.lookup f9=some ⟨oc9,od9,.func (PySem.W.fnOf "run_from" "run_from" (defArgs s_run_from) (defBody s_run_from) (defScope s_run_from) .none kV9 dc9 pm9 an9 cd9 ct9),sl9⟩) (c9:PySem.W.codeIn K cd9 "run_from"=true) (k9:PySem.W.keepIn K (.ref f9)=true)
  (a10:PySem.W.nsIn K mainGlobals "landings"=some (some (.ref f10))) (l10:K.lookup f10=some ⟨oc10,od10,.func (PySem.W.fnOf "landings" "landings" (defArgs s_landings) (defBody s_landings) (defScope s_landings) .none kV10 dc10 pm10 an10 cd10 ct10),sl10⟩) (c10:PySem.W.codeIn K cd10 "landings"=true) (k10:PySem.W.keepIn K (.ref f10)=true)
  (a11:PySem.W.nsIn K mainGlobals "linked"=some (some (.ref f11))) (l11:K.lookup f11=some ⟨oc11,od11,.func (PySem.W.fnOf "linked" "linked" (defArgs s_linked) (defBody s_linked) (defScope s_linked) .none kV11 dc11 pm11 an11 cd11 ct11),sl11⟩) (c11:PySem.W.codeIn K cd11 "linked"=true) (k11:PySem.W.keepIn K (.ref f11)=true)
  (a12:PySem.W.nsIn K mainGlobals "run"=some (some (.ref f12))) (l12:K.lookup f12=some ⟨oc12,od12,.func (PySem.W.fnOf "run" "run" (defArgs s_run) (defBody s_run) (defScope s_run) (.ref td12) kV12 dc12 pm12 an12 cd12 ct12),sl12⟩) (c12:PySem.W.codeIn K cd12 "run"=true) (k12:PySem.W.keepIn K (.ref f12)=true)
  (a13:PySem.W.nsIn K mainGlobals "_law_cell"=some (some (.ref f13))) (l13:K.lookup f13=some ⟨oc13,od13,.func (PySem.W.fnOf "_law_cell" "_law_cell" (defArgs s_Lcell) (defBody s_Lcell) (defScope s_Lcell) .none kV13 dc13 pm13 an13 cd13 ct13),sl13⟩) (c13:PySem.W.codeIn K cd13 "_law_cell"=true) (k13:PySem.W.keepIn K (.ref f13)=true)
  (a14:PySem.W.nsIn K mainGlobals "_law_mixed"=some (some (.ref f14))) (l14:K.lookup f14=some ⟨oc14,od14,.func (PySem.W.fnOf "_law_mixed" "_law_mixed" (defArgs s_Lmixed) (defBody s_Lmixed) (defScope s_Lmixed) .none kV14 dc14 pm14 an14 cd14 ct14),sl14⟩) (c14:PySem.W.codeIn K cd14 "_law_mixed"=true) (k14:PySem.W.keepIn K (.ref f14)=true)
  (a15:PySem.W.nsIn K mainGlobals "_law_names"=some (some (.ref f15))) (l15:K.lookup f15=some ⟨oc15,od15,.func (PySem.W.fnOf "_law_names" "_law_names" (defArgs s_Lnames) (defBody s_Lnames) (defScope s_Lnames) .none kV15 dc15 pm15 an15 cd15 ct15),sl15⟩) (c15:PySem.W.codeIn K cd15 "_law_names"=true) (k15:PySem.W.keepIn K (.ref f15)=true)
  (a16:PySem.W.nsIn K mainGlobals "_law_great"=some (some (.ref f16))) (l16:K.lookup f16=some ⟨oc16,od16,.func (PySem.W.fnOf "_law_great" "_law_great" (defArgs s_Lgreat) (defBody s_Lgreat) (defScope s_Lgreat) .none kV16 dc16 pm16 an16 cd16 ct16),sl16⟩) (c16:PySem.W.codeIn K cd16 "_law_great"=true) (k16:PySem.W.keepIn K (.ref f16)=true)
  (a17:PySem.W.nsIn K mainGlobals "_law_operand"=some (some (.ref f17))) (l17:K.lookup f17=some ⟨oc17,od17,.func (PySem.W.fnOf "_law_operand" "_law_operand" (defArgs s_Loperand) (defBody s_Loperand) (defScope s_Loperand) .none kV17 dc17 pm17 an17 cd17 ct17),sl17⟩) (c17:PySem.W.codeIn K cd17 "_law_operand"=true) (k17:PySem.W.keepIn K (.ref f17)=true)
  (a18:PySem.W.nsIn K mainGlobals "_law_row"=some (some (.ref f18))) (l18:K.lookup f18=some ⟨oc18,od18,.func (PySem.W.fnOf "_law_row" "_law_row" (defArgs s_Lrow) (defBody s_Lrow) (defScope s_Lrow) .none kV18 dc18 pm18 an18 cd18 ct18),sl18⟩) (c18:PySem.W.codeIn K cd18 "_law_row"=true) (k18:PySem.W.keepIn K (.ref f18)=true)
  (a19:PySem.W.nsIn K mainGlobals "_law_rows"=some (some (.ref f19))) (l19:K.lookup f19=some ⟨oc19,od19,.func (PySem.W.fnOf "_law_rows" "_law_rows" (defArgs s_Lrows) (defBody s_Lrows) (defScope s_Lrows) .none kV19 dc19 pm19 an19 cd19 ct19),sl19⟩) (c19:PySem.W.codeIn K cd19 "_law_rows"=true) (k19:PySem.W.keepIn K (.ref f19)=true)
  (a20:PySem.W.nsIn K mainGlobals "_law_memory"=some (some (.ref f20))) (l20:K.lookup f20=some ⟨oc20,od20,.func (PySem.W.fnOf "_law_memory" "_law_memory" (defArgs s_Lmemory) (defBody s_Lmemory) (defScope s_Lmemory) .none kV20 dc20 pm20 an20 cd20 ct20),sl20⟩) (c20:PySem.W.codeIn K cd20 "_law_memory"=true) (k20:PySem.W.keepIn K (.ref f20)=true)
  (a21:PySem.W.nsIn K mainGlobals "_law_alike"=some (some (.ref f21))) (l21:K.lookup f21=some ⟨oc21,od21,.func (PySem.W.fnOf "_law_alike" "_law_alike" (defArgs s_Lalike) (defBody s_Lalike) (defScope s_Lalike) .none kV21 dc21 pm21 an21 cd21 ct21),sl21⟩) (c21:PySem.W.codeIn K cd21 "_law_alike"=true) (k21:PySem.W.keepIn K (.ref f21)=true)
  (a22:PySem.W.nsIn K mainGlobals "_law_same_memory"=some (some (.ref f22))) (l22:K.lookup f22=some ⟨oc22,od22,.func (PySem.W.fnOf "_law_same_memory" "_law_same_memory" (defArgs s_Lsame_memory) (defBody s_Lsame_memory) (defScope s_Lsame_memory) .none kV22 dc22 pm22 an22 cd22 ct22),sl22⟩) (c22:PySem.W.codeIn K cd22 "_law_same_memory"=true) (k22:PySem.W.keepIn K (.ref f22)=true)
  (a23:PySem.W.nsIn K mainGlobals "_law_worth"=some (some (.ref f23))) (l23:K.lookup f23=some ⟨oc23,od23,.func (PySem.W.fnOf "_law_worth" "_law_worth" (defArgs s_Lworth) (defBody s_Lworth) (defScope s_Lworth) .none kV23 dc23 pm23 an23 cd23 ct23),sl23⟩) (c23:PySem.W.codeIn K cd23 "_law_worth"=true) (k23:PySem.W.keepIn K (.ref f23)=true)
  (a24:PySem.W.nsIn K mainGlobals "_law_sum"=some (some (.ref f24))) (l24:K.lookup f24=some ⟨oc24,od24,.func (PySem.W.fnOf "_law_sum" "_law_sum" (defArgs s_Lsum) (defBody s_Lsum) (defScope s_Lsum) .none kV24 dc24 pm24 an24 cd24 ct24),sl24⟩) (c24:PySem.W.codeIn K cd24 "_law_sum"=true) (k24:PySem.W.keepIn K (.ref f24)=true)
  (a25:PySem.W.nsIn K mainGlobals "_law_deed"=some (some (.ref f25))) (l25:K.lookup f25=some ⟨oc25,od25,.func (PySem.W.fnOf "_law_deed" "_law_deed" (defArgs s_Ldeed) (defBody s_Ldeed) (defScope s_Ldeed) .none kV25 dc25 pm25 an25 cd25 ct25),sl25⟩) (c25:PySem.W.codeIn K cd25 "_law_deed"=true) (k25:PySem.W.keepIn K (.ref f25)=true)
  (a26:PySem.W.nsIn K mainGlobals "_law_run"=some (some (.ref f26))) (l26:K.lookup f26=some ⟨oc26,od26,.func (PySem.W.fnOf "_law_run" "_law_run" (defArgs s_Lrun) (defBody s_Lrun) (defScope s_Lrun) .none kV26 dc26 pm26 an26 cd26 ct26),sl26⟩) (c26:PySem.W.codeIn K cd26 "_law_run"=true) (k26:PySem.W.keepIn K (.ref f26)=true)
  (a27:PySem.W.nsIn K mainGlobals "_law_fits"=some (some (.ref f27))) (l27:K.lookup f27=some ⟨oc27,od27,.func (PySem.W.fnOf "_law_fits" "_law_fits" (defArgs s_Lfits) (defBody s_Lfits) (defScope s_Lfits) .none kV27 dc27 pm27 an27 cd27 ct27),sl27⟩) (c27:PySem.W.codeIn K cd27 "_law_fits"=true) (k27:PySem.W.keepIn K (.ref f27)=true)
  (a28:PySem.W.nsIn K mainGlobals "law"=some (some (.ref f28))) (l28:K.lookup f28=some ⟨oc28,od28,.func (PySem.W.fnOf "law" "law" (defArgs s_law) (defBody s_law) (defScope s_law) .none kV28 dc28 pm28 an28 cd28 ct28),sl28⟩) (c28:PySem.W.codeIn K cd28 "law"=true) (k28:PySem.W.keepIn K (.ref f28)=true)
  (z0:PySem.W.nsIn K mainGlobals "isinstance"=some none) (z1:PySem.W.nsIn K mainGlobals "str"=some none) (z2:PySem.W.nsIn K mainGlobals "len"=some none) (z3:PySem.W.nsIn K mainGlobals "dict"=some none) (z4:PySem.W.nsIn K mainGlobals "range"=some none) (z5:PySem.W.nsIn K mainGlobals "enumerate"=some none) (z6:PySem.W.nsIn K mainGlobals "list"=some none) (z7:PySem.W.nsIn K mainGlobals "tuple"=some none) (z8:PySem.W.nsIn K mainGlobals "int"=some none) (z9:PySem.W.nsIn K mainGlobals "bool"=some none)
  {c_JumpError c_ByNought fi Ti:Addr}
  {ocI kVI dcI pmI cdI ctI ocT:Value} {odI anI odT:Option Addr} {slI slT:Array (Option Value)} {nT:Nat}
  (n0:PySem.W.nsIn K mainGlobals "JumpError"=some (some (.ref c_JumpError)))
  (n1:PySem.W.nsIn K mainGlobals "ByNought"=some (some (.ref c_ByNought)))
  {nm0 q0:Str} {N0:Addr} {bs0 sub0:List Value} {sn0:List Str} {ab0:Bool} {col0:Option Bool} {dd0:Option Addr} {ka0 kb0 kc0 kd0 ke0:Option Value}
  (xl0:K.lookup c_ByNought=some (excClassObj nm0 q0 c_ByNought N0 bs0 (.ref c_JumpError::vs4) true sn0 sub0 ab0 col0 dd0 ka0 kb0 kc0 kd0 ke0 "ValueError.__new__"))
  (xa0:PySem.W.findIn K (.ref c_ByNought) "__init__"=some (some (.ref fi)))
  (xb0:PySem.W.isFn K (.ref fi)=true)
  (xc0:PySem.W.keepIn K (.ref c_ByNought)=true)
  (xd0:PySem.W.findIn K (.ref c_ByNought) "row"=some none)
  (xe0:PySem.W.findIn K (.ref c_ByNought) "__setattr__"=some (some (.builtin "object.__setattr__")))
  (xf0:PySem.W.findIn K (.ref c_ByNought) "__getattribute__"=some (some (.builtin "BaseException.__getattribute__")))
  (xg0:PySem.W.findIn K (.ref c_ByNought) "__getattr__"=some none)
  (xh0:PySem.W.mroIn K c_ByNought (.type "BaseException")=some true)
  (xi0:PySem.W.findIn K (.ref c_ByNought) "__class__"=some (some (.builtin "object.__class__")))
  (xj0:PySem.W.mroIn K c_ByNought (.type "object")=some true)
  (xk0:PySem.W.mroIn K c_ByNought (.ref c_JumpError)=some true)
  (xm0:PySem.W.typeIn K (.ref c_ByNought)=some (.type "type"))
  (xn0:PySem.W.isClsIn K c_ByNought=true)
  (xo0:PySem.W.mroIn K c_ByNought (.ref c_ByNought)=some true)
  (y0_0:PySem.W.kitOne K (.ref c_ByNought) (.ref c_JumpError)=some true)
  (y0_1:PySem.W.kitOne K (.ref c_ByNought) (.ref c_ByNought)=some true)
  (y0:PySem.W.kitOne K (.ref c_ByNought) (.type "ValueError")=some true)
  (w0:PySem.W.specialIn K (.builtin "object.__class__") "__get__"=some (some (.builtin "getset_descriptor.__get__")))
  (w1:PySem.W.takesIn K (.builtin "object.__class__")=some true)
  (w2:PySem.W.typeIn K (.ref c_JumpError)=some (.type "type"))
  (w3:PySem.W.isClsIn K c_JumpError=true)
  (w4:PySem.W.mroIn K c_JumpError (.type "BaseException")=some true)
  (il:K.lookup fi=some ⟨ocI,odI,.func (PySem.W.fnOf "__init__" "JumpError.__init__" (defArgs s_init) (defBody s_init) (defScope s_init) (.ref Ti) kVI dcI pmI anI cdI ctI),slI⟩) (ic:PySem.W.codeIn K cdI "JumpError.__init__"=true) (it:K.lookup Ti=some ⟨ocT,odT,.seq #[.none] nT,slT⟩)
  {nd12:Nat} {tk12:Tok} {otd12:Value} {odd12:Option Addr} {sld12:Array (Option Value)} (dl12:K.lookup td12=some ⟨otd12,odd12,.seq #[.int 100 tk12] nd12,sld12⟩)
  :∃t:Adr,Tx K mg t∧t.a_law=f28∧∀(s:Shared) (v:Value),BindsTo s t.d_law ⟨[v],[]⟩ [("_law_script",v)]:=by
 have F0:=fun_mk (st:=s_quotient) l0 c0 k0
 have F1:=fun_mk (st:=s_rest) l1 c1 k1
 have F2:=fun_mk (st:=s_made) l2 c2 k2
 have F3:=fun_mk (st:=s_holds) l3 c3 k3
 have F4:=fun_mk (st:=s_worth) l4 c4 k4
 have F5:=fun_mk (st:=s_deed_of_sum) l5 c5 k5
 have F6:=fun_mk (st:=s_deed_of_test) l6 c6 k6
 have F7:=fun_mk (st:=s_behind) l7 c7 k7
 have F8:=fun_mk (st:=s_deed_of) l8 c8 k8
 have F9:=fun_mk (st:=s_run_from) l9 c9 k9
 have F10:=fun_mk (st:=s_landings) l10 c10 k10
 have F11:=fun_mk (st:=s_linked) l11 c11 k11
 have F12:=fun_mk (st:=s_run) l12 c12 k12
 have F13:=fun_mk (st:=s_Lcell) l13 c13 k13
 have F14:=fun_mk (st:=s_Lmixed) l14 c14 k14
 have F15:=fun_mk (st:=s_Lnames) l15 c15 k15
 have F16:=fun_mk (st:=s_Lgreat) l16 c16 k16
 have F17:=fun_mk (st:=s_Loperand) l17 c17 k17
 have F18:=fun_mk (st:=s_Lrow) l18 c18 k18
 have F19:=fun_mk (st:=s_Lrows) l19 c19 k19
 have F20:=fun_mk (st:=s_Lmemory) l20 c20 k20
 have F21:=fun_mk (st:=s_Lalike) l21 c21 k21
 have F22:=fun_mk (st:=s_Lsame_memory) l22 c22 k22
 have F23:=fun_mk (st:=s_Lworth) l23 c23 k23
 have F24:=fun_mk (st:=s_Lsum) l24 c24 k24
 have F25:=fun_mk (st:=s_Ldeed) l25 c25 k25
 have F26:=fun_mk (st:=s_Lrun) l26 c26 k26
 have F27:=fun_mk (st:=s_Lfits) l27 c27 k27
 have F28:=fun_mk (st:=s_law) l28 c28 k28
 exact⟨⟨f0,_,f1,_,f2,_,f3,_,f4,_,f5,_,f6,_,f7,_,f8,_,f9,_,f10,_,f11,_,f12,_,f13,_,f14,_,f15,_,f16,_,f17,_,f18,_,f19,_,f20,_,f21,_,f22,_,f23,_,f24,_,f25,_,f26,_,f27,_,f28,_,c_JumpError,c_ByNought,fi,_⟩,⟨F0,PySem.W.mg_of X G a0,k0,.all (ofLen2 (fun _ _=>rfl)),
  F1,PySem.W.mg_of X G a1,k1,.all (ofLen2 (fun _ _=>rfl)),
  F2,PySem.W.mg_of X G a2,k2,.all (ofLen3 (fun _ _ _=>rfl)),
  F3,PySem.W.mg_of X G a3,k3,.all (ofLen3 (fun _ _ _=>rfl)),
  F4,PySem.W.mg_of X G a4,k4,.all (ofLen2 (fun _ _=>rfl)),
  F5,PySem.W.mg_of X G a5,k5,.all (ofLen5 (fun _ _ _ _ _=>rfl)),
  F6,PySem.W.mg_of X G a6,k6,.all (ofLen4 (fun _ _ _ _=>rfl)),
  F7,PySem.W.mg_of X G a7,k7,.all (ofLen3 (fun _ _ _=>rfl)),
  F8,PySem.W.mg_of X G a8,k8,.all (ofLen2 (fun _ _=>rfl)),
  F9,PySem.W.mg_of X G a9,k9,.all (ofLen4 (fun _ _ _ _=>rfl)),
  F10,PySem.W.mg_of X G a10,k10,.all (ofLen2 (fun _ _=>rfl)),
  F11,PySem.W.mg_of X G a11,k11,.all (ofLen1 (fun _=>rfl)),
  F12,PySem.W.mg_of X G a12,k12,bindsAll (n:=3) (fun s KX=>ofLen3 fun _ _ _=>PySem.W.binds_K KX rfl dl12 rfl rfl rfl) rfl,⟨tk12,bindsDf (n:=2) (fun s KX=>ofLen2 fun _ _=>PySem.W.binds_K KX rfl dl12 rfl rfl rfl) rfl⟩,
  F13,PySem.W.mg_of X G a13,k13,.all (ofLen2 (fun _ _=>rfl)),
  F14,PySem.W.mg_of X G a14,k14,.all (ofLen2 (fun _ _=>rfl)),
  F15,PySem.W.mg_of X G a15,k15,.all (ofLen1 (fun _=>rfl)),
  F16,PySem.W.mg_of X G a16,k16,.all (ofLen1 (fun _=>rfl)),
  F17,PySem.W.mg_of X G a17,k17,.all (ofLen3 (fun _ _ _=>rfl)),
  F18,PySem.W.mg_of X G a18,k18,.all (ofLen4 (fun _ _ _ _=>rfl)),
  F19,PySem.W.mg_of X G a19,k19,.all (ofLen3 (fun _ _ _=>rfl)),
  F20,PySem.W.mg_of X G a20,k20,.all (ofLen2 (fun _ _=>rfl)),
  F21,PySem.W.mg_of X G a21,k21,.all (ofLen2 (fun _ _=>rfl)),
  F22,PySem.W.mg_of X G a22,k22,.all (ofLen2 (fun _ _=>rfl)),
  F23,PySem.W.mg_of X G a23,k23,.all (ofLen2 (fun _ _=>rfl)),
  F24,PySem.W.mg_of X G a24,k24,.all (ofLen3 (fun _ _ _=>rfl)),
  F25,PySem.W.mg_of X G a25,k25,.all (ofLen2 (fun _ _=>rfl)),
  F26,PySem.W.mg_of X G a26,k26,.all (ofLen3 (fun _ _ _=>rfl)),
  F27,PySem.W.mg_of X G a27,k27,.all (ofLen2 (fun _ _=>rfl)),
  F28,PySem.W.mg_of X G a28,k28,.all (ofLen1 (fun _=>rfl)),
  PySem.W.mg_none_of X G z0,
  PySem.W.mg_none_of X G z1,
  PySem.W.mg_none_of X G z2,
  PySem.W.mg_none_of X G z3,
  PySem.W.mg_none_of X G z4,
  PySem.W.mg_none_of X G z5,
  PySem.W.mg_none_of X G z6,
  PySem.W.mg_none_of X G z7,
  PySem.W.mg_none_of X G z8,
  PySem.W.mg_none_of X G z9,
  PySem.W.mg_of X G n0,
  PySem.W.mg_of X G n1,
  excMk_of xl0 xa0 xb0 xc0,
  excSet_of xl0 xd0 xe0,
  ⟨(mro4 xl0).imp fun _ h=>⟨h.1,h.2.1⟩,xd0,xf0,xg0,xh0⟩,
  ⟨(mro4 xl0).imp fun _ h=>⟨h.1,h.2.1⟩,xf0,xg0,xh0,xi0,w0,w1,xj0⟩,
  ⟨w2,w3,w4,xk0⟩,
  ⟨xm0,xn0,xh0,xo0⟩,
  y0_0,
  y0_1,
  y0,
  fun P w mg base=>init_ok il ic sc_init ib_init rfl rfl,
  bindsDf (n:=1) (fun s KX=>ofLen1 fun _=>PySem.W.binds_K KX rfl it rfl rfl rfl) rfl,
  bindsAll (n:=2) (fun s KX=>ofLen2 fun _ _=>PySem.W.binds_K KX rfl it rfl rfl rfl) rfl⟩,rfl,fun s v=> .of_eq rfl⟩
end K07
namespace UB
open PySem PySem.Builtin
theorem land_mod2(a b:Nat):(a&&&b) % 2=(a % 2) * (b % 2):=by
 have h:=Nat.testBit_and a b 0
 rw[Nat.testBit_zero,Nat.testBit_zero,Nat.testBit_zero,Bool.eq_iff_iff,Bool.and_eq_true,decide_eq_true_iff,decide_eq_true_iff,decide_eq_true_iff] at h
 rcases Nat.mod_two_eq_zero_or_one a with ha | ha<;>rcases Nat.mod_two_eq_zero_or_one b with hb | hb<;>rw[ha,hb] at h ⊢ <;>omega
theorem lor_mod2(a b:Nat):(a ||| b) % 2+(a % 2) * (b % 2)=a % 2+b % 2:=by
 have h:=Nat.testBit_or a b 0
 rw[Nat.testBit_zero,Nat.testBit_zero,Nat.testBit_zero,Bool.eq_iff_iff,Bool.or_eq_true,decide_eq_true_iff,decide_eq_true_iff,decide_eq_true_iff] at h
 rcases Nat.mod_two_eq_zero_or_one a with ha | ha<;>rcases Nat.mod_two_eq_zero_or_one b with hb | hb<;>rw[ha,hb] at h ⊢ <;>omega
theorem lxor_mod2(a b:Nat):(a ^^^ b) % 2+2 * ((a % 2) * (b % 2))=a % 2+b % 2:=by
 have h:=Nat.testBit_xor a b 0
 rw[Nat.testBit_zero,Nat.testBit_zero,Nat.testBit_zero] at h
 rcases Nat.mod_two_eq_zero_or_one a with ha | ha<;>rcases Nat.mod_two_eq_zero_or_one b with hb | hb<;>rw[ha,hb] at h ⊢ <;>(first | (have h2:=of_decide_eq_true h;omega) | (have h2:=of_decide_eq_false h;omega))
theorem two_parts(n:Nat):∀a b:Nat,a<2 ^ n→b<2 ^ n→(a ||| b)+(a&&&b)=a+b∧(a ^^^ b)+2 * (a&&&b)=a+b:=by
 induction n with
 | zero=>
  intro a b ha hb
  have:a=0:=by simpa using ha
  have:b=0:=by simpa using hb
  subst a b
  decide
 | succ n ih=>
  intro a b ha hb
  have h1:a / 2<2 ^ n:=by rw[Nat.pow_succ] at ha;omega
  have h2:b / 2<2 ^ n:=by rw[Nat.pow_succ] at hb;omega
  obtain⟨i1,i2⟩:=ih (a / 2) (b / 2) h1 h2
  have d1:(a&&&b) / 2=a / 2&&&b / 2:=Nat.and_div_two
  have d2:(a ||| b) / 2=a / 2 ||| b / 2:=Nat.or_div_two
  have d3:(a ^^^ b) / 2=a / 2 ^^^ b / 2:=Nat.xor_div_two
  have m1:=land_mod2 a b
  have m2:=lor_mod2 a b
  have m3:=lxor_mod2 a b
  rw[←d1,←d2] at i1
  rw[←d1,←d3] at i2
  generalize (a % 2) * (b % 2)=p at *
  omega
theorem or_and(a b:Nat):(a ||| b)+(a&&&b)=a+b:=by
 refine(two_parts (a+b) a b ?_ ?_).1
 ·exact Nat.lt_of_le_of_lt (Nat.le_add_right a b) Nat.lt_two_pow_self
 ·exact Nat.lt_of_le_of_lt (Nat.le_add_left b a) Nat.lt_two_pow_self
theorem xor_and(a b:Nat):(a ^^^ b)+2 * (a&&&b)=a+b:=by
 refine(two_parts (a+b) a b ?_ ?_).2
 ·exact Nat.lt_of_le_of_lt (Nat.le_add_right a b) Nat.lt_two_pow_self
 ·exact Nat.lt_of_le_of_lt (Nat.le_add_left b a) Nat.lt_two_pow_self
def mag(x:Int):Nat:=if x<0 then(-1 - x).toNat else x.toNat
theorem mag_pos{x:Int}(h:0≤x):mag x=x.toNat:=if_neg (by omega)
theorem mag_neg{x:Int}(h:x<0):mag x=(bitNot x).toNat:=by
 unfold mag;rw[if_pos h];unfold bitNot;congr 1;omega
theorem and_pp{x y:Int}(hx:0≤x)(hy:0≤y):bitAnd x y=((mag x&&&mag y:Nat):Int):=by
 unfold bitAnd;rw[decide_eq_true hx,decide_eq_true hy,mag_pos hx,mag_pos hy]
theorem and_pn{x y:Int}(hx:0≤x)(hy:y<0):bitAnd x y=((mag x ^^^ (mag x&&&mag y):Nat):Int):=by
 unfold bitAnd;rw[decide_eq_true hx,decide_eq_false (by omega:¬0≤y),←mag_neg hy]
 show x - ((x.toNat&&&mag y:Nat):Int)=_
 rw[←mag_pos hx]
 have h:=xor_and (mag x) (mag x&&&mag y)
 have e:mag x&&&(mag x&&&mag y)=mag x&&&mag y:=by rw[←Nat.and_assoc,Nat.and_self]
 rw[e] at h
 have:((mag x:Nat):Int)=x:=by rw[mag_pos hx];omega
 omega
theorem and_np{x y:Int}(hx:x<0)(hy:0≤y):bitAnd x y=((mag y ^^^ (mag y&&&mag x):Nat):Int):=by
 rw[←and_pn hy hx]
 unfold bitAnd;rw[decide_eq_true hy,decide_eq_false (by omega:¬0≤x)]
theorem and_nn{x y:Int}(hx:x<0)(hy:y<0):bitAnd x y= -1 - ((mag x ||| mag y:Nat):Int):=by
 unfold bitAnd;rw[decide_eq_false (by omega:¬0≤x),decide_eq_false (by omega:¬0≤y),←mag_neg hx,←mag_neg hy]
 show bitNot _=_
 unfold bitNot;omega
theorem not_mag(x:Int):mag (bitNot x)=mag x:=by
 unfold mag bitNot
 by_cases h:x<0
 ·rw[if_pos h,if_neg (by omega)];congr 1;omega
 ·rw[if_neg h,if_pos (by omega)];congr 1;omega
theorem xor_p{x y:Int}(h:(0≤x∧0≤y)∨(x<0∧y<0)):bitXor x y=((mag x ^^^ mag y:Nat):Int):=by
 unfold bitXor bitOr
 have a1:=or_and (mag x) (mag y)
 have a2:=xor_and (mag x) (mag y)
 rcases h with⟨hx,hy⟩ | ⟨hx,hy⟩
 ·rw[and_nn (x:=bitNot x) (y:=bitNot y) (by unfold bitNot;omega) (by unfold bitNot;omega),and_pp hx hy,not_mag,not_mag]
  unfold bitNot;omega
 ·rw[and_pp (x:=bitNot x) (y:=bitNot y) (by unfold bitNot;omega) (by unfold bitNot;omega),and_nn hx hy,not_mag,not_mag]
  unfold bitNot;omega
theorem xor_n{x y:Int}(h:(0≤x∧y<0)∨(x<0∧0≤y)):bitXor x y= -1 - ((mag x ^^^ mag y:Nat):Int):=by
 unfold bitXor bitOr
 have a2:=xor_and (mag x) (mag y)
 have e:mag y&&&mag x=mag x&&&mag y:=Nat.and_comm _ _
 have h1:=xor_and (mag x) (mag x&&&mag y)
 have e1:mag x&&&(mag x&&&mag y)=mag x&&&mag y:=by rw[←Nat.and_assoc,Nat.and_self]
 have h2:=xor_and (mag y) (mag x&&&mag y)
 have e2:mag y&&&(mag x&&&mag y)=mag x&&&mag y:=by rw[Nat.and_comm (mag x),←Nat.and_assoc,Nat.and_self]
 rw[e1] at h1
 rw[e2] at h2
 rcases h with⟨hx,hy⟩ | ⟨hx,hy⟩
 ·rw[and_np (x:=bitNot x) (y:=bitNot y) (by unfold bitNot;omega) (by unfold bitNot;omega),and_pn hx hy,not_mag,not_mag,e]
  unfold bitNot;omega
 ·rw[and_pn (x:=bitNot x) (y:=bitNot y) (by unfold bitNot;omega) (by unfold bitNot;omega),and_np hx hy,not_mag,not_mag,e]
  unfold bitNot;omega
theorem mag_lt{x:Int}{n:Nat}(h1:-(2 ^ n:Nat)≤x)(h2:x< (2 ^ n:Nat)):mag x<2 ^ n:=by
 unfold mag;split<;>omega
theorem range_and{x y:Int}{n:Nat}(h1:-(2 ^ n:Nat)≤x)(h2:x< (2 ^ n:Nat))(h3:-(2 ^ n:Nat)≤y)(h4:y< (2 ^ n:Nat)):
  -(2 ^ n:Nat)≤bitAnd x y∧bitAnd x y< (2 ^ n:Nat):=by
 have a:=mag_lt h1 h2
 have b:=mag_lt h3 h4
 rcases Int.lt_or_le x 0 with hx | hx<;>rcases Int.lt_or_le y 0 with hy | hy
 ·rw[and_nn hx hy];have:=Nat.or_lt_two_pow a b;omega
 ·rw[and_np hx hy];have:=Nat.xor_lt_two_pow b (Nat.and_lt_two_pow (mag y) a);omega
 ·rw[and_pn hx hy];have:=Nat.xor_lt_two_pow a (Nat.and_lt_two_pow (mag x) b);omega
 ·rw[and_pp hx hy];have:=Nat.and_lt_two_pow (mag x) b;omega
theorem range_xor{x y:Int}{n:Nat}(h1:-(2 ^ n:Nat)≤x)(h2:x< (2 ^ n:Nat))(h3:-(2 ^ n:Nat)≤y)(h4:y< (2 ^ n:Nat)):
  -(2 ^ n:Nat)≤bitXor x y∧bitXor x y< (2 ^ n:Nat):=by
 have a:=Nat.xor_lt_two_pow (mag_lt h1 h2) (mag_lt h3 h4)
 rcases Int.lt_or_le x 0 with hx | hx<;>rcases Int.lt_or_le y 0 with hy | hy
 ·rw[xor_p (.inr ⟨hx,hy⟩)];omega
 ·rw[xor_n (.inr ⟨hx,hy⟩)];omega
 ·rw[xor_n (.inl ⟨hx,hy⟩)];omega
 ·rw[xor_p (.inl ⟨hx,hy⟩)];omega
end UB
namespace K07
open PySem PySem.Spec PyProof.Rows L2 L3 U
set_option hygiene false
local macro_rules | `(tactic| walk_at "go")=>do
 let ids:=("tss_nil tss_cons ts te tes teo tit tcd tbop tt op_add_i op_add_s op_add_t op_add_l op_sub_i op_mul_i op_mul_l op_fdiv_i op_mod_i op_pow_i op_and_i op_xor_i cm_lt_i cm_le_i cm_gt_i cm_ge_i cm_eq cm_ne cm_in cm_notin cm_is_n cm_is_i cm_is_s cm_is_b cm_is_t cm_is_r eq_i eq_s eq_b eq_nn eq_is eq_si tru_b tru_i tru_n tru_t ix_t ix_g ix_s sl_s sl_t sl_l is_non is_bl is_int is_str is_tup tyNon tyBl tyInt tyStr tyTup tyLst tyDct bf_len_t bf_len_s bf_is bf_list bf_dict bf_int at2_xy onRef_r mt_append_r mt_get2_r mt_clearD_r mk_clearD mt_clear_r mk_append mk_clear mk_get2 tg_one tg_two it_r it_t it_g key_i key_s in_ss start0 List.map_cons List.map_nil List.length_cons List.length_nil List.cons_append List.nil_append List.append_nil List.replicate List.set_cons_zero List.set_cons_succ List.getElem?_cons_zero List.getElem?_cons_succ Nat.reduceAdd Nat.reduceSub Nat.sub_self Nat.zero_add decide_eq_true_eq ne_eq Int.reduceEq not_false_eq_true true_and Bool.not_eq_true' decide_eq_false_iff_not Bool.false_eq_true Bool.true_eq_false if_true if_false Bool.not_true Bool.not_false".splitOn " ").toArray.map fun s=>Lean.mkIdent s.toName
 let gs ←(Array.range 28).mapM fun i=>`(tactic| try simp only[$(Lean.mkIdent (Lean.Name.mkSimple s!"g{i}")):ident])
 `(tactic| ((try dsimp only[$[$ids:ident],*]);(try simp only[$[$ids:ident],*]);$[$gs:tactic];*))
local macro_rules | `(tactic| walk_at "ev")=>`(tactic| (walk_at "go";repeat (with_reducible refine rest_of ?_;walk_at "go")))
def Kp(M M':Store):Prop:=∃N,M'=M++N
theorem Kp.refl(M:Store):Kp M M:=⟨[],(List.append_nil M).symm⟩
theorem Kp.app{M M':Store}(h:Kp M M')(N:Store):Kp M (M'++N):=by obtain⟨L,rfl⟩:=h;exact⟨L++N,by rw[List.append_assoc]⟩
theorem Kp.trans{M M' M2:Store}(h:Kp M M')(g:Kp M' M2):Kp M M2:=by obtain⟨L,rfl⟩:=h;obtain⟨L2,rfl⟩:=g;exact⟨L++L2,by rw[List.append_assoc]⟩
theorem Kp.new(M N:Store):Kp M (M++N):=⟨N,rfl⟩
theorem Kp.L{M M':Store}{a:Nat}{xs:List D}(h:Kp M M')(e:readL M a=some xs):readL M' a=some xs:=by obtain⟨L,rfl⟩:=h;exact readL_app e
theorem Kp.W{M M':Store}{a:Nat}{xs:List D}(h:Kp M M')(e:readW M a=some xs):readW M' a=some xs:=by obtain⟨L,rfl⟩:=h;exact readW_app e
def mixN(c k:Int):Int:=(c % 2147483647 * 48271+7919 * k * k+104729) % 2147483647
def mix(c k:Int):Int:=mixN c k * mixN c k % 2147483629
theorem mixN_lo(c k:Int):0≤mixN c k:=Int.emod_nonneg _ (by decide)
theorem mixN_hi(c k:Int):mixN c k<2147483647:=Int.emod_lt_of_pos _ (by decide)
theorem mix_lo(c k:Int):0≤mix c k:=Int.emod_nonneg _ (by decide)
theorem mix_hi(c k:Int):mix c k<2147483629:=Int.emod_lt_of_pos _ (by decide)
def cellI(ns:List Int)(k:Nat):Int:=ns.getD k 0
theorem qm{i j:Int}(h:0<j):qmod i j=i % j:=qmod_pos h
theorem qd{i j:Int}(h:0<j):qdiv i j=i / j:=qdiv_pos h
theorem cell_bits{ns:List Int}(h:∀i∈ns,Bits bigN i)(k:Nat):Bits bigN (cellI ns k):=by
 unfold cellI
 rw[List.getD_eq_getElem?_getD]
 cases e:ns[k]? with
 | none=>exact(show Bits 1 0 by unfold Bits;omega).mono (by decide)
 | some v=>exact h v (List.mem_of_getElem? e)
inductive Opd where
 | nm (x:Str) | no (i:Int)
def Opd.d:Opd→D
 | .nm x=> .str x
 | .no i=> .int i
inductive Nd where
 | sum (x:Str) (a:Opd) (sg:Str) (b:Opd) (t:Nat) | test (a:Opd) (sg:Str) (b:Opd) (y n:Nat) | fin | spin
def Nd.d:Nd→D
 | .sum x a sg b t=> .tup [.str "sum",.str x,a.d,.str sg,b.d,.int t]
 | .test a sg b y n=> .tup [.str "test",a.d,.str sg,b.d,.int y,.int n]
 | .fin=> .tup [.str "end"]
 | .spin=> .tup [.str "spin"]
def Nd.gs:Nd→List Nat
 | .sum _ _ _ _ t=>[t]
 | .test _ _ _ y n=>[n,y]
 | .fin=>[]
 | .spin=>[]
def natD(l:List Nat):List D:=l.map fun(x:Nat)=>D.int (x:Int)
theorem natD_len(l:List Nat):(natD l).length=l.length:=by unfold natD;simp
theorem natD_get{l:List Nat}{k x:Nat}(h:l[k]?=some x):(natD l)[k]?=some (.int x):=by unfold natD;rw[List.getElem?_map,h];rfl
theorem natD_app(l m:List Nat):natD (l++m)=natD l++natD m:=by unfold natD;rw[List.map_append]
def spCell:DSp:=fun ds M Q _=>∃(a:Nat) (ns:List Int) (k:Nat),ds=[.ref a,.int k]∧readL M a=some (ns.map .int)∧Q (.int (cellI ns k)) M
section
variable{K:PySem.W.Frag}
theorem r_Lcell{Γ G}:∀ds M Q Z,spCell ds M Q Z→tss ⟨K,Γ,G⟩ noX b_Lcell {nx:=fun _ M=>Q .non M,rt:=Q} (start0 N_Lcell ds) M:=by
 rintro ds M Q Z ⟨a,ns,k,rfl,hm,q⟩
 simp only[b_Lcell,b_Lcell_1,N_Lcell]
 walk_at "ev"
 refine bf_len_l hm ?_
 walk_at "ev"
 split
 ·rename_i h
  have hk:k<ns.length:=by simpa using h
  refine ix_l hm (by rw[List.getElem?_map,List.getElem?_eq_getElem hk];rfl) ?_
  have e:cellI ns k=ns[k]:=by unfold cellI;rw[List.getD_eq_getElem?_getD,List.getElem?_eq_getElem hk];rfl
  rw[e] at q
  exact q
 ·rename_i h
  have hk:ns.length≤k:=by simpa using h
  have e:cellI ns k=0:=by unfold cellI;rw[List.getD_eq_getElem?_getD,List.getElem?_eq_none hk];rfl
  rw[e] at q
  exact q
end
def begD(B:List Nat):List (Key×D):=B.map fun(x:Nat)=>((Sum.inl (x:Int),D.bl true):Key×D)
theorem begD_len(B:List Nat):(begD B).length=B.length:=by unfold begD;simp
theorem begD_in(B:List Nat)(y:Nat):(valD (begD B) (Sum.inl (y:Int))).isSome=decide (y∈B):=by
 unfold valD begD
 induction B with
 | nil=>rfl
 | cons x r ih=>
  rw[List.map_cons,List.find?_cons]
  by_cases e:x=y
  ·subst e;simp
  ·have:decide ((Sum.inl (x:Int):Key)=Sum.inl (y:Int))=false:=by
    rw[decide_eq_false_iff_not];intro z;exact e (by have:=Sum.inl.inj z;omega)
   rw[this]
   simp only
   rw[ih]
   have e':¬y=x:=fun z=>e z.symm
   simp[e']
theorem begD_put{B:List Nat}{y:Nat}(h:¬y∈B):putD (begD B) (Sum.inl (y:Int)) (.bl true)=begD (B++[y]):=by
 unfold putD
 rw[if_neg]
 try walk_at "ev"
 ·unfold begD;rw[List.map_append];rfl
 ·intro z
  obtain⟨kv,h1,h2⟩:=List.any_eq_true.mp z
  unfold begD at h1
  obtain⟨x,hx,rfl⟩:=List.mem_map.mp h1
  rw[decide_eq_true_eq] at h2
  have:=Sum.inl.inj h2
  have e:x=y:=by omega
  exact h (e ▸ hx)
def numP(O:List Nat):List (Key×D):=O.mapIdx fun i (x:Nat)=>((Sum.inl (x:Int),D.int (i:Nat)):Key×D)
theorem numP_snoc(O:List Nat)(y:Nat):numP (O++[y])=numP O++[(Sum.inl (y:Int),D.int (O.length:Nat))]:=by unfold numP;rw[List.mapIdx_append];simp
theorem numP_len(O:List Nat):(numP O).length=O.length:=by unfold numP;simp
theorem valD_put(m:List (Key×D))(k j:Key)(v:D):valD (putD m k v) j=if k=j then some v else valD m j:=by
 unfold putD
 split
 ·rename_i h
  unfold valD
  induction m with
  | nil=>simp at h
  | cons p r ih=>
   rw[List.map_cons,List.find?_cons,List.find?_cons]
   by_cases hp:p.1=k
   ·rw[if_pos hp]
    try walk_at "ev"
    by_cases hj:k=j
    ·subst hj;simp[hp]
    ·have:decide (p.1=j)=false:=by rw[decide_eq_false_iff_not,hp];exact hj
     simp only[this]
     rw[if_neg hj]
     try walk_at "ev"
     by_cases hr:(r.any fun kv=>decide (kv.1=k))=true
     ·have:=ih hr;rw[if_neg hj] at this;exact this
     ·have hn:r.map (fun kv=>if kv.1=k then(kv.1,v) else kv)=r:=by
       rw[List.map_congr_left (g:=id)]
       ·simp
       ·intro kv hkv
        rw[if_neg]
        try walk_at "ev"
        ·rfl
        ·intro z;exact hr (List.any_eq_true.mpr ⟨kv,hkv,by simpa using z⟩)
      rw[hn]
   ·rw[if_neg hp]
    try walk_at "ev"
    have hr:(r.any fun kv=>decide (kv.1=k))=true:=by simpa[hp] using h
    by_cases hj:p.1=j
    ·have:¬k=j:=fun z=>hp (hj.trans z.symm)
     simp[hj,this]
    ·simp only[hj,decide_false]
     exact ih hr
 ·rename_i h
  unfold valD
  rw[List.find?_append]
  by_cases hj:k=j
  ·subst hj
   have:m.find? (fun kv=>decide (kv.1=k))=none:=by
    rw[List.find?_eq_none]
    intro kv hkv z
    exact h (List.any_eq_true.mpr ⟨kv,hkv,z⟩)
   rw[this]
   simp
  ·rw[if_neg hj]
   try walk_at "ev"
   simp[hj]
theorem foldD_snoc(ps:List (Key×D))(p:Key×D):foldD (ps++[p])=putD (foldD ps) p.1 p.2:=by unfold foldD;rw[List.foldl_append];rfl
theorem val_num:∀(n:Nat) (O:List Nat),O.length=n→O.Nodup→∀x∈O,valD (foldD (numP O)) (Sum.inl (x:Int))=some (.int (O.idxOf x:Nat))
 | 0,O,h,_,x,hx=>by rw[List.length_eq_zero_iff.mp h] at hx;cases hx
 | n+1,O,h,nd,x,hx=>by
  have hne:O≠[]:=by rintro rfl;cases h
  obtain⟨O',y,rfl⟩:∃O' y,O=O'++[y]:=⟨O.dropLast,O.getLast hne,(List.dropLast_concat_getLast hne).symm⟩
  rw[List.length_append,List.length_singleton] at h
  have nd':=List.nodup_append.mp nd
  rw[numP_snoc,foldD_snoc,valD_put]
  by_cases e:y=x
  ·subst e
   rw[if_pos rfl]
   try walk_at "ev"
   have hn:y∉O':=fun z=>nd'.2.2 y z y (by simp) rfl
   rw[List.idxOf_append,if_neg hn]
   simp
  ·rw[if_neg (fun z=>e (by have:=Sum.inl.inj z;omega))]
   try walk_at "ev"
   have hx':x∈O':=(List.mem_append.mp hx).resolve_right (by rw[List.mem_singleton];exact fun z=>e z.symm)
   rw[val_num n O' (by omega) nd'.1 x hx',List.idxOf_append,if_pos hx']
theorem enum_get{xs:List D}{i:Nat}{d:D}(h:(enumD xs)[i]?=some d):∃x,xs[i]?=some x∧d= .tup [.int (i:Nat),x]:=by
 unfold enumD at h
 rw[List.getElem?_mapIdx,Option.map_eq_some_iff] at h
 obtain⟨x,h1,rfl⟩:=h
 exact⟨x,h1,rfl⟩
theorem enum_len(xs:List D):(enumD xs).length=xs.length:=by unfold enumD;simp
theorem natD_snoc(l:List Nat)(x:Nat):natD (l++[x])=natD l++[.int (x:Nat)]:=natD_app _ _
theorem take_snoc{α:Type}{l:List α}{i:Nat}{x:α}(h:l[i]?=some x):l.take (i+1)=l.take i++[x]:=by
 obtain⟨h1,h2⟩:=List.getElem?_eq_some_iff.mp h
 rw[←h2]
 exact List.take_succ_eq_append_getElem h1
inductive Rw where
 | sum (k:Nat) (x:Str) (a:Opd) (sg:Str) (b:Opd) | test (k:Nat) (a:Opd) (sg:Str) (b:Opd) (g:Nat) | jump (k g:Nat) | fin (k:Nat)
def Rw.d:Rw→D
 | .sum k x a sg b=> .tup [.int k,.str "sum",.str x,a.d,.str sg,b.d]
 | .test k a sg b g=> .tup [.int k,.str "test",a.d,.str sg,b.d,.int g]
 | .jump k g=> .tup [.int k,.str "jump",.int g]
 | .fin k=> .tup [.int k,.str "end"]
def JOf(rows:List Rw)(pl:List (Key×D))(J:Nat→Option Nat):Prop:=∀p r,rows[p]?=some r→match r with
 | Rw.jump _ g=>∃q,J p=some q∧q<rows.length∧valD pl (Sum.inl (g:Int))=some (D.int (q:Nat))
 | _=>J p=none
def LanD(kvs:List (Key×D))(m:Nat→Option Nat):Prop:=∀p:Nat,valD kvs (Sum.inl (p:Int))=(m p).map fun(g:Nat)=>D.int (g:Int)
theorem LanD.put{kvs:List (Key×D)}{m:Nat→Option Nat}(h:LanD kvs m)(p g:Nat):LanD (putD kvs (Sum.inl (p:Int)) (.int (g:Nat))) (fun x=>if x=p then some g else m x):=by
 intro x
 rw[valD_put]
 by_cases e:x=p
 ·subst e;rw[if_pos rfl];show _=Option.map _ (if x=x then some g else m x);rw[if_pos rfl];rfl
 ·rw[if_neg (fun z=>e (by have:=Sum.inl.inj z;omega))];show _=Option.map _ (if x=p then some g else m x);rw[if_neg e];exact h x
  try walk_at "ev"
theorem putD_len(m:List (Key×D))(k:Key)(v:D):(putD m k v).length≤m.length+1:=by
 unfold putD
 split
 ·rw[List.length_map];omega
 ·rw[List.length_append,List.length_singleton];exact Nat.le_refl _
def spLandings:DSp:=fun ds M Q _=>∃(a b:Nat) (rows:List Rw) (pl:List (Key×D)) (J:Nat→Option Nat),ds=[.ref a,.ref b]∧readL M a=some (rows.map Rw.d)∧readD M b=some pl∧rows.length≤2000∧JOf rows pl J∧
 ∀kvs m M',LanD kvs m→LN.Ln J rows.length m→(∀p,p<rows.length→(m p).isSome=true)→Kp M M'→readD M' M.length=some kvs→Q (.ref M.length) M'
theorem isSome_of'{α:Type}{o:Option α}{x:α}(h:o=some x):o.isSome=true:=by rw[h];rfl
theorem at_endk'(M N:Store)(k:Nat):(M++N)[M.length+k]?=N[k]?:=by rw[List.getElem?_append_right (by omega),Nat.add_sub_cancel_left]
section
variable{K:PySem.W.Frag}
theorem r_landings{Γ G}:∀ds M Q Z,spLandings ds M Q Z→tss ⟨K,Γ,G⟩ noX b_landings {nx:=fun _ M=>Q .non M,rt:=Q} (start0 N_landings ds) M:=by
 rintro ds M Q Z ⟨a,b,rows,pl,J,rfl,ha,hb,hn,hJ,q⟩
 simp only[b_landings,N_landings]
 walk_at "ev"
 refine bf_len_l (readL_app ha) ⟨by omega,by rw[List.length_map];omega,?_⟩
 try walk_at "ev"
 rw[Int.toNat_natCast,List.length_map]
 refine forD_rng (fun i σ M'=>∃kvs m N d3 d4 d5 d6 d7,σ=[some (.ref a),some (.ref b),some (.ref M.length),d3,d4,d5,d6,d7]∧M'=M++ .dct kvs::N∧LanD kvs m∧LN.Ln J rows.length m∧(∀p,p<i→(m p).isSome=true)∧kvs.length≤i * 3000)
  ⟨[],fun _=>none,[],none,none,none,none,none,rfl,rfl,fun p=>rfl,(fun p g h=>by cases h),(fun p h=>by omega),Nat.zero_le _⟩ ?_ ?_
 ·rintro i σ M' C hi ⟨kvs,m,N,d3,d4,d5,d6,d7,rfl,rfl,lan,ln,tot,hk⟩ hC
  have hrow:∀p,p<rows.length→∃r,rows[p]?=some r:=fun p hp=>⟨_,List.getElem?_eq_getElem hp⟩
  simp only[b_landings_5,Int.zero_add]
  walk_at "ev"
  rw[List.append_assoc,List.cons_append]
  have el:(M++ .dct kvs::N).length=M.length+(N.length+1):=by simp
  rw[el]
  have rdP:∀kv c,readD (M++ .dct kv::(N++[.dct c])) (M.length+(N.length+1))=some c:=fun kv c=>by rw[readD_endk];exact readD_end N _ []
  have rdL:∀kv N',readD (M++ .dct kv::N') M.length=some kv:=fun kv N'=>readD_end _ _ _
  refine⟨fun w σ M'=>∃(P:List Nat) (p:Nat),w=rows.length - P.length∧σ=[some (.ref a),some (.ref b),some (.ref M.length),some (.int (i:Nat)),some (.ref (M.length+(N.length+1))),some (.int (p:Nat)),d6,d7]∧M'=M++ .dct kvs::(N++[.dct (begD P)])∧LN.Lk J i P p∧P.Nodup∧(∀x∈P,x<rows.length∧m x=none)∧p<rows.length,
   ⟨_,[],i,rfl,rfl,rfl,rfl,by simp,by simp,hi⟩,?_⟩
  rintro w σ M' ⟨P,p,rfl,rfl,rfl,lk,nd,hP,hp⟩
  have hPl:P.length≤rows.length:=ND.nodup_len rows.length P nd fun x hx=>(hP x hx).1
  have hkb:kvs.length≤6000000:=by
   have:i * 3000≤2000 * 3000:=Nat.mul_le_mul_right _ (by omega)
   omega
  obtain⟨r,hr⟩:=hrow p hp
  have stop:∀bk,((m p).isSome=true∨p∈P∨J p=none)→tss ⟨K,Γ,G⟩ noX b_landings_3 {nx:=C,rt:=Q,bk:=bk,ct:=C} [some (.ref a),some (.ref b),some (.ref M.length),some (.int (i:Nat)),some (.ref (M.length+(N.length+1))),some (.int (p:Nat)),d6,d7] (M++ .dct kvs::(N++[.dct (begD P)])):=by
   intro bk hs
   obtain⟨l1,l2,l3⟩:=ln.land lk hP hp hs
   simp only[b_landings_3]
   walk_at "ev"
   refine⟨isSome_of' (rdL _ _),kvs,_,rdL _ _,rfl,?_⟩
   try walk_at "ev"
   have eg:((valD kvs (Sum.inl (p:Int))).getD (.int (p:Nat)))= .int ((m p).getD p:Nat):=by rw[lan p];cases m p<;>rfl
   rw[eg]
   generalize hg:(m p).getD p=g at l1 l2 l3
   refine .inr ⟨kvs,_,rdL _ _,rfl,sizeLine_gt (by omega),?_⟩
   try walk_at "ev"
   rw[set_end]
   refine⟨begD P,rdP _ _,?_⟩
   try walk_at "ev"
   have fz:∀kv,(M++ .dct kv::(N++[.fdc (begD P)]):Store)[M.length+(N.length+1)]?=some (.fdc (begD P)):=fun kv=>by rw[at_endk',List.getElem?_cons_succ,at_end]
   have sz:∀kv c,(M++ .dct kv::(N++[c]):Store).set (M.length+(N.length+1)) (.fdc (begD P))=M++ .dct kv::(N++[.fdc (begD P)]):=fun kv c=>by rw[set_endk,List.set_cons_succ,set_end]
   have st:∀kv,(M++ .dct kv::(N++[.fdc (begD P)]):Store).set (M.length+(N.length+1)) (.dct (begD P))=M++ .dct kv::(N++[.dct (begD P)]):=fun kv=>by rw[set_endk,List.set_cons_succ,set_end]
   have eK:keysD (begD P)=natD P:=by unfold keysD begD natD;rw[List.map_map];rfl
   rw[sz,eK]
   refine forD_by (fun j σ M'=>∃kv d7,σ=[some (.ref a),some (.ref b),some (.ref M.length),some (.int (i:Nat)),some (.ref (M.length+(N.length+1))),some (.int (p:Nat)),some (.int (g:Nat)),d7]∧M'=M++ .dct kv::(N++[.fdc (begD P)])∧LanD kv (LN.land m (P.take j) p g)∧kv.length≤kvs.length+1+j)
    ⟨_,d7,rfl,rfl,?_,by have:=putD_len kvs (Sum.inl (p:Int)) (.int (g:Nat));omega⟩ ?_ ?_ ?_
   ·have:=lan.put p g
    intro x
    have h2:=this x
    unfold LN.land
    rw[List.take_zero,if_neg (by simp)]
    exact h2
   ·rintro j σ M' _ ⟨kv,d7,rfl,rfl,_⟩
    exact⟨begD P,fz _,eK.symm⟩
   ·rintro j dx σ M' C2 hx ⟨kv,d7,rfl,rfl,lan2,hk2⟩ hC2
    have hj:j<P.length:=by have:=(List.getElem?_eq_some_iff.mp hx).1;rwa[natD_len] at this
    have hgj:P[j]?=some P[j]:=List.getElem?_eq_getElem hj
    generalize P[j]=y at hgj
    rw[natD_get hgj] at hx
    cases hx
    simp only[b_landings_2]
    walk_at "ev"
    refine .inr ⟨kv,_,rdL _ _,rfl,sizeLine_gt (by omega),?_⟩
    try walk_at "ev"
    rw[set_end]
    refine hC2 _ _ ⟨_,_,rfl,rfl,fun x=>?_,by have:=putD_len kv (Sum.inl (y:Int)) (.int (g:Nat));omega⟩
    try walk_at "ev"
    rw[lan2.put y g x,take_snoc hgj]
    congr 1
    unfold LN.land
    try dsimp only
    by_cases ex:x=y
    ·subst ex;rw[if_pos rfl,if_pos (by simp)]
    ·rw[if_neg ex]
     try walk_at "ev"
     have:(x∈P.take j++[y])↔x∈P.take j:=by simp[ex]
     simp only[this]
   ·rintro σ M' ⟨kv,d7,rfl,rfl,lan2,hk2⟩
    rw[natD_len] at lan2 hk2
    rw[List.take_length] at lan2
    refine⟨begD P,fz _,?_⟩
    try walk_at "ev"
    rw[st]
    refine hC _ _ ⟨kv,_,_,_,_,_,_,_,rfl,rfl,lan2,l1,fun x hx=>?_,by rw[Nat.add_mul];omega⟩
    try walk_at "ev"
    by_cases ex:x=i
    ·subst ex;exact l2
    ·exact l3 x (tot x (by omega))
  walk_at "ev"
  refine .inr ⟨kvs,_,rdL _ _,rfl,?_⟩
  try walk_at "ev"
  rw[lan p,Option.isSome_map]
  try dsimp only
  cases hm:(m p).isSome with
  | true=>
   rw[if_neg (by decide)]
   try walk_at "ev"
   try rw[if_neg (by decide)]
   exact stop _ (.inl hm)
  | false=>
   rw[if_pos rfl]
   try walk_at "ev"
   refine .inr ⟨begD P,_,rdP _ _,rfl,?_⟩
   try walk_at "ev"
   rw[begD_in]
   try dsimp only
   by_cases hpP:p∈P
   ·rw[decide_eq_true hpP,if_neg (by decide)]
    try rw[if_neg (by decide)]
    exact stop _ (.inr (.inl hpP))
   ·rw[decide_eq_false hpP,if_pos rfl]
    refine ix_l (k:=p) (readL_app ha) (by rw[List.getElem?_map,hr];rfl) ?_
    have hJp:=hJ p r hr
    cases r with
    | jump k g=>
     obtain⟨q',j1,j2,j3⟩:=hJp
     refine⟨_,rfl,?_⟩
     walk_at "ev"
     simp only[b_landings_4]
     walk_at "ev"
     have hm':m p=none:=by cases e:m p with
      | none=>rfl
      | some _=>rw[e] at hm;cases hm
     have nd':(P++[p]).Nodup:=List.nodup_append.mpr ⟨nd,by simp,fun a ha c hc=>by rw[List.mem_singleton] at hc;subst hc;exact fun e=>hpP (e ▸ ha)⟩
     have hP':∀x∈P++[p],x<rows.length∧m x=none:=fun x hx=>by
      rcases List.mem_append.mp hx with hx | hx
      ·exact hP x hx
      ·rw[List.mem_singleton] at hx;subst hx;exact⟨hp,hm'⟩
     have hl':=ND.nodup_len rows.length (P++[p]) nd' fun x hx=>(hP' x hx).1
     rw[List.length_append,List.length_singleton] at hl'
     refine .inr ⟨begD P,_,rdP _ _,rfl,by rw[begD_len];exact sizeLine_gt (by omega),?_⟩
     try walk_at "ev"
     rw[begD_put hpP,set_endk,List.set_cons_succ,set_end]
     refine ix_l (k:=p) (readL_app ha) (by rw[List.getElem?_map,hr];rfl) ?_
     refine⟨_,rfl,?_⟩
     try walk_at "ev"
     refine ix_d (readD_app hb) rfl j3 ?_
     try walk_at "ev"
     exact⟨_,by rw[List.length_append,List.length_singleton];omega,P++[p],q',rfl,rfl,rfl,lk.snoc j1,nd',hP',j2⟩
    | sum k x o1 sg o2=>
     refine⟨_,rfl,?_⟩
     walk_at "ev"
     rw[if_neg (by decide+kernel)]
     try walk_at "ev"
     exact stop _ (.inr (.inr hJp))
    | test k o1 sg o2 g=>
     refine⟨_,rfl,?_⟩
     walk_at "ev"
     rw[if_neg (by decide+kernel)]
     try walk_at "ev"
     exact stop _ (.inr (.inr hJp))
    | fin k=>
     refine⟨_,rfl,?_⟩
     walk_at "ev"
     rw[if_neg (by decide+kernel)]
     try walk_at "ev"
     exact stop _ (.inr (.inr hJp))
 ·rintro σ M' ⟨kvs,m,N,d3,d4,d5,d6,d7,rfl,rfl,lan,ln,tot,hk⟩
  simp only[b_landings_1]
  walk_at "ev"
  exact q kvs m _ lan ln tot (Kp.new _ _) (readD_end _ _ _)
end
def Rw.num:Rw→Nat
 | .sum k _ _ _ _=>k
 | .test k _ _ _ _=>k
 | .jump k _=>k
 | .fin k=>k
def posOf(rows:List Rw)(g:Nat):Nat:=(rows.map Rw.num).idxOf g
def jmp(rows:List Rw)(p:Nat):Option Nat:=match rows[p]? with
 | some (.jump _ g)=>some (posOf rows g)
 | _=>none
def Rw.node(rows:List Rw)(L:Nat→Nat)(p:Nat):Rw→Nd
 | .sum _ x a sg b=> .sum x a sg b (L (p+1))
 | .test _ a sg b g=> .test a sg b (L (posOf rows g)) (L (p+1))
 | .jump _ _=> .spin
 | .fin _=> .fin
def Rw.goal:Rw→Option Nat
 | .test _ _ _ _ g=>some g
 | .jump _ g=>some g
 | _=>none
def Rw.goes:Rw→Bool
 | .sum _ _ _ _ _=>true
 | .test _ _ _ _ _=>true
 | _=>false
structure RwOk(rows:List Rw):Prop where
 pos:0<rows.length
 small:rows.length≤2000
 nd:(rows.map Rw.num).Nodup
 goal:∀r∈rows,∀g,r.goal=some g→g∈rows.map Rw.num
 last:∀p r,rows[p]?=some r→r.goes=true→p+1<rows.length
structure Lands(rows:List Rw)(L:Nat→Nat):Prop where
 lt:∀p,p<rows.length→L p<rows.length
 no:∀p,p<rows.length→jmp rows p=none→L p=p
 yes:∀p q,p<rows.length→jmp rows p=some q→L p=L q
 orb:∀p,p<rows.length→LN.Orb (jmp rows) p (L p)
def nodesOf(rows:List Rw)(L:Nat→Nat):List Nd:=rows.mapIdx fun p r=>r.node rows L p
def spLinked:DSp:=fun ds M Q _=>∃(a:Nat) (rows:List Rw),ds=[.ref a]∧readL M a=some (rows.map Rw.d)∧RwOk rows∧
 ∀L M' r,Lands rows L→Kp M M'→readW M' r=some ((nodesOf rows L).map Nd.d)→M.length≤r→Q (.tup [.ref r,.int (L 0:Nat)]) M'
theorem pos_lt{rows:List Rw}{g:Nat}(h:g∈rows.map Rw.num):posOf rows g<rows.length:=by
 have:=List.idxOf_lt_length_of_mem h
 rwa[List.length_map] at this
theorem jmp_lt{rows:List Rw}(ok:RwOk rows){p q:Nat}(h:jmp rows p=some q):q<rows.length:=by
 unfold jmp at h
 split at h
 ·rename_i k g e
  cases h
  exact pos_lt (ok.goal _ (List.mem_of_getElem? e) g rfl)
 ·cases h
theorem orb_lt{rows:List Rw}(ok:RwOk rows){p q:Nat}(h:LN.Orb (jmp rows) p q)(hp:p<rows.length):q<rows.length:=by
 induction h with
 | refl _=>exact hp
 | step e _ ih=>exact ih (jmp_lt ok e)
theorem lands_of{rows:List Rw}(ok:RwOk rows){m:Nat→Option Nat}(h:LN.Ln (jmp rows) rows.length m)(all:∀p,p<rows.length→(m p).isSome=true):Lands rows (fun p=>(m p).getD 0):=by
 have get:∀p,p<rows.length→m p=some ((m p).getD 0):=fun p hp=>by
  obtain⟨g,e⟩:=Option.isSome_iff_exists.mp (all p hp)
  rw[e];rfl
 refine⟨fun p hp=>orb_lt ok (h p _ (get p hp)).2.2.2 hp,fun p hp e=>(h p _ (get p hp)).2.1 e,fun p q hp e=>?_,fun p hp=>(h p _ (get p hp)).2.2.2⟩
 try walk_at "ev"
 have:=(h p _ (get p hp)).2.2.1 q e
 show(m p).getD 0=(m q).getD 0
 rw[this];rfl
theorem Kp.D{M M':Store}{a:Nat}{xs:List (Key×D)}(h:Kp M M')(e:readD M a=some xs):readD M' a=some xs:=by obtain⟨L,rfl⟩:=h;exact readD_app e
theorem nodesOf_len(rows:List Rw)(L:Nat→Nat):(nodesOf rows L).length=rows.length:=by unfold nodesOf;simp
theorem nodesOf_get{rows:List Rw}{L:Nat→Nat}{i:Nat}{r:Rw}(h:rows[i]?=some r):(nodesOf rows L)[i]?=some (r.node rows L i):=by unfold nodesOf;rw[List.getElem?_mapIdx,h];rfl
section
variable{K:PySem.W.Frag}
theorem r_linked{Γ G}(g4:Γ[10]?=some spLandings):∀ds M Q Z,spLinked ds M Q Z→tss ⟨K,Γ,G⟩ noX b_linked {nx:=fun _ M=>Q .non M,rt:=Q} (start0 N_linked ds) M:=by
 rintro ds M Q Z ⟨a,rows,rfl,ha,ok,q⟩
 have hn:=ok.small
 simp only[b_linked,N_linked]
 walk_at "ev"
 refine⟨_,ha,?_⟩
 try walk_at "ev"
 simp only[capD,List.map_cons,List.map_nil,Option.bind_none,Option.bind_some,List.getElem?_cons_zero,List.getElem?_cons_succ,Option.join_some]
 refine compD_by (fun i σ M'=>∃d1 d2,σ=[d1,d2]∧M'=M++[.lst (U.pairD (numP ((rows.map Rw.num).take i)))]) ⟨none,none,rfl,rfl⟩ ?_ ?_ ?_
 ·rintro i σ M' _ ⟨d1,d2,rfl,rfl⟩
  exact⟨_,readL_app ha,rfl⟩
 ·rintro i dx σ M' C hx ⟨d1,d2,rfl,rfl⟩ hC
  obtain⟨y,hy,rfl⟩:=enum_get hx
  have hi:i<rows.length:=by have:=(List.getElem?_eq_some_iff.mp hy).1;rwa[List.length_map] at this
  obtain⟨r,hr⟩:∃r,rows[i]?=some r:=⟨_,List.getElem?_eq_getElem hi⟩
  rw[List.getElem?_map,hr] at hy
  cases hy
  have hnum:(rows.map Rw.num)[i]?=some r.num:=by rw[List.getElem?_map,hr];rfl
  have e0:∀F:D→Prop,F (.int (r.num:Nat))→ixD (M++[.lst (U.pairD (numP ((rows.map Rw.num).take i)))]) r.d (.int 0) F:=fun F f=>by cases r<;>exact⟨_,rfl,f⟩
  walk_at "ev"
  refine e0 _ ⟨sizeLine_ge (by decide),_,readW_end _ _ [],by unfold U.pairD;rw[List.length_map,numP_len,List.length_take,List.length_map];exact sizeLine_gt (by omega),?_⟩
  try walk_at "ev"
  rw[set_end]
  refine hC _ _ ⟨_,_,rfl,?_⟩
  try walk_at "ev"
  rw[take_snoc hnum,numP_snoc,List.length_take,List.length_map,Nat.min_eq_left (by omega)]
  unfold U.pairD
  rw[List.map_append]
  rfl
 ·rintro σ M' ⟨d1,d2,rfl,rfl⟩
  rw[enum_len,List.length_map,←List.length_map (f:=Rw.num) (as:=rows),List.take_length]
  try walk_at "ev"
  refine .inr ⟨numP (rows.map Rw.num),readL_end _ _ [],by rw[numP_len,List.length_map];exact sizeLine_gt (by omega),?_⟩
  try walk_at "ev"
  have k1:Kp M (M++[.lst (U.pairD (numP (rows.map Rw.num)))]++[.dct (foldD (numP (rows.map Rw.num)))]):=(Kp.new _ _).app _
  have hd1:readD (M++[.lst (U.pairD (numP (rows.map Rw.num)))]++[.dct (foldD (numP (rows.map Rw.num)))]) (M++[Cell.lst (U.pairD (numP (rows.map Rw.num)))]:Store).length=some (foldD (numP (rows.map Rw.num))):=readD_end _ _ []
  generalize M++[.lst (U.pairD (numP (rows.map Rw.num)))]++[.dct (foldD (numP (rows.map Rw.num)))]=M1 at k1 hd1
  generalize (M++[Cell.lst (U.pairD (numP (rows.map Rw.num)))]:Store).length=nn at hd1
  have ha1:=k1.L ha
  try simp only[g4]
  have jof:JOf rows (foldD (numP (rows.map Rw.num))) (jmp rows):=by
   intro p r hr
   cases r with
   | jump k g=>
    have hg:=ok.goal _ (List.mem_of_getElem? hr) g rfl
    exact⟨posOf rows g,by unfold jmp;rw[hr],pos_lt hg,val_num _ _ rfl ok.nd g hg⟩
   | _=>show jmp rows p=none;unfold jmp;rw[hr]
  refine⟨a,nn,rows,_,jmp rows,rfl,ha1,hd1,hn,jof,fun kvs m M2 lan ln tot k2 hk=>?_⟩
  try walk_at "ev"
  have lands:=lands_of ok ln tot
  have hd2:=k2.D hd1
  have ha2:=k2.L ha1
  have val:∀p:Nat,p<rows.length→valD kvs (Sum.inl (p:Int))=some (.int ((m p).getD 0:Nat)):=fun p hp=>by
   rw[lan p]
   obtain⟨g,e⟩:=Option.isSome_iff_exists.mp (tot p hp)
   rw[e];rfl
  walk_at "ev"
  refine⟨sizeLine_ge (by decide),_,readL_app ha2,?_⟩
  try walk_at "ev"
  have hk':∀N,readD (M2++N) M1.length=some kvs:=fun N=>readD_app hk
  have hp':∀N,readD (M2++N) nn=some (foldD (numP (rows.map Rw.num))):=fun N=>readD_app hd2
  generalize hL:(fun p=>(m p).getD 0)=L at lands
  have val':∀p:Nat,p<rows.length→valD kvs (Sum.inl (p:Int))=some (.int (L p:Nat)):=fun p hp=>by rw[val p hp,←hL]
  refine forD_by (fun i σ M'=>∃d4 d5,σ=[some (.ref a),some (.ref nn),some (.ref M1.length),some (.ref M2.length),d4,d5]∧M'=M2++[.lst (((nodesOf rows L).take i).map Nd.d)]) ⟨none,none,rfl,rfl⟩ ?_ ?_ ?_
  ·rintro i σ M' _ ⟨d4,d5,rfl,rfl⟩
   exact⟨_,readL_app ha2,rfl⟩
  ·rintro i dx σ M' C hx ⟨d4,d5,rfl,rfl⟩ hC
   obtain⟨y,hy,rfl⟩:=enum_get hx
   have hi:i<rows.length:=by have:=(List.getElem?_eq_some_iff.mp hy).1;rwa[List.length_map] at this
   obtain⟨r,hr⟩:∃r,rows[i]?=some r:=⟨_,List.getElem?_eq_getElem hi⟩
   rw[List.getElem?_map,hr] at hy
   cases hy
   have len:(((nodesOf rows L).take i).map Nd.d).length<sizeLine:=by
    rw[List.length_map,List.length_take,nodesOf_len]
    exact sizeLine_gt (by omega)
   have fin:∀d4 d5,C [some (.ref a),some (.ref nn),some (.ref M1.length),some (.ref M2.length),d4,d5] (M2++[.lst (((nodesOf rows L).take i).map Nd.d++[(r.node rows L i).d])]):=by
    intro d4 d5
    refine hC _ _ ⟨d4,d5,rfl,?_⟩
    try walk_at "ev"
    rw[take_snoc (nodesOf_get hr),List.map_append]
    rfl
   have put:∀d4 d5 v,v=(r.node rows L i).d→∃xs,readW (M2++[.lst (((nodesOf rows L).take i).map Nd.d)]) M2.length=some xs∧xs.length<sizeLine∧C [some (.ref a),some (.ref nn),some (.ref M1.length),some (.ref M2.length),d4,d5] ((M2++[.lst (((nodesOf rows L).take i).map Nd.d)]:Store).set M2.length (.lst (xs++[v]))):=by
    rintro d4 d5 v rfl
    refine⟨_,readW_end _ _ [],len,?_⟩
    try walk_at "ev"
    rw[set_end]
    exact fin d4 d5
   have isS:(readL (M2++[.lst (((nodesOf rows L).take i).map Nd.d)]) M2.length).isSome=true:=isSome_of (readL_end _ _ [])
   have e1:((i:Int)+1)=((i+1:Nat):Int):=by omega
   simp only[b_linked_2]
   try walk_at "ev"
   cases r with
   | sum k x o1 sg o2=>
    have hl:=ok.last i _ hr rfl
    simp only[Rw.d]
    try walk_at "ev"
    refine⟨_,rfl,?_⟩
    try walk_at "ev"
    rw[show U.cutD [.int k,.str "sum",.str x,o1.d,.str sg,o2.d] (some 1) none=[.str "sum",.str x,o1.d,.str sg,o2.d] from rfl,e1]
    refine⟨isS,by decide,ix_d (hk' _) rfl (val' _ hl) ⟨sizeLine_ge (by decide),by simp,sizeLine_ge (by simp),put _ _ _ rfl⟩⟩
   | test k o1 sg o2 g=>
    have hl:=ok.last i _ hr rfl
    have hg:=ok.goal _ (List.mem_of_getElem? hr) g rfl
    simp only[Rw.d]
    try walk_at "ev"
    refine⟨_,rfl,?_⟩
    try walk_at "ev"
    rw[if_neg (by decide+kernel)]
    try walk_at "ev"
    refine⟨_,rfl,?_⟩
    try walk_at "ev"
    rw[show U.cutD [.int k,.str "test",o1.d,.str sg,o2.d,.int g] (some 1) (some 5)=[.str "test",o1.d,.str sg,o2.d] from rfl,e1]
    refine⟨isS,by decide,_,rfl,ix_d (hp' _) rfl (val_num _ _ rfl ok.nd g hg) (ix_d (hk' _) rfl (val' _ (pos_lt hg)) (ix_d (hk' _) rfl (val' _ hl) ⟨sizeLine_ge (by decide),by simp,sizeLine_ge (by simp),put _ _ _ rfl⟩))⟩
   | fin k=>
    simp only[Rw.d]
    try walk_at "ev"
    refine⟨_,rfl,?_⟩
    try walk_at "ev"
    rw[if_neg (by decide+kernel)]
    try walk_at "ev"
    refine⟨_,rfl,?_⟩
    try walk_at "ev"
    rw[if_neg (by decide+kernel)]
    try walk_at "ev"
    refine⟨_,rfl,?_⟩
    try walk_at "ev"
    exact⟨isS,sizeLine_ge (by decide),put _ _ _ rfl⟩
   | jump k g=>
    simp only[Rw.d]
    try walk_at "ev"
    refine⟨_,rfl,?_⟩
    try walk_at "ev"
    rw[if_neg (by decide+kernel)]
    try walk_at "ev"
    refine⟨_,rfl,?_⟩
    try walk_at "ev"
    rw[if_neg (by decide+kernel)]
    try walk_at "ev"
    refine⟨_,rfl,?_⟩
    try walk_at "ev"
    rw[if_neg (by decide+kernel)]
    try walk_at "ev"
    exact⟨isS,sizeLine_ge (by decide),put _ _ _ rfl⟩
  ·rintro σ M' ⟨d4,d5,rfl,rfl⟩
   rw[enum_len,List.length_map,←nodesOf_len rows L,List.take_length]
   simp only[b_linked_1]
   walk_at "ev"
   refine ix_d (y:=Sum.inl ((0:Nat):Int)) (hk' _) rfl (val' 0 ok.pos) ⟨sizeLine_ge (by decide),?_⟩
   try walk_at "ev"
   refine q L _ _ lands ((k1.trans k2).app _) (readW_end _ _ []) ?_
   try walk_at "ev"
   obtain⟨X1,rfl⟩:=k1
   obtain⟨X2,rfl⟩:=k2
   simp only[List.length_append]
   omega
end
section
variable{K:PySem.W.Frag}
def flatE:D→Bool
 | .bl _ | .int _ | .str _=>true
 | _=>false
def AL(M:Store):Nat→D→D→Prop
 | 0,x,y=>x=y∧flatE x=true
 | n+1,x,y=>(x=y∧flatE x=true)∨(∃xs ys,x= .tup xs∧y= .tup ys∧xs.length=ys.length∧xs.length≤100000∧∀(i:Nat) a b,xs[i]?=some a→ys[i]?=some b→AL M n a b)∨
   ∃m k xs ys,x= .ref m∧y= .ref k∧readW M m=some xs∧readW M k=some ys∧xs.length=ys.length∧xs.length≤100000∧∀(i:Nat) a b,xs[i]?=some a→ys[i]?=some b→AL M n a b
def spAlike(n:Nat):DSp:=fun ds M Q _=>∃x y,ds=[x,y]∧AL M n x y∧Q (.bl true) M
theorem AL.flat{M:Store}{n:Nat}{x:D}(h:flatE x=true):AL M n x x:=by
 cases n with
 | zero=>exact⟨rfl,h⟩
 | succ n=>exact .inl ⟨rfl,h⟩
theorem alike_flat{Γ G}{M:Store}{Q:DK}{x:D}(h:flatE x=true)(q:Q (.bl true) M):tss ⟨K,Γ,G⟩ noX b_Lalike {nx:=fun _ M=>Q .non M,rt:=Q} (start0 N_Lalike [x,x]) M:=by
 simp only[b_Lalike,N_Lalike]
 try walk_at "ev"
 cases x with
 | bl b=>
  walk_at "ev"
  simpa using q
 | int i=>
  walk_at "ev"
  simp only[b_Lalike_7]
  walk_at "ev"
  simpa using q
 | str z=>
  walk_at "ev"
  simp only[b_Lalike_7]
  walk_at "ev"
  simp only[b_Lalike_6]
  walk_at "ev"
  simpa using q
 | _=>exact absurd h Bool.false_ne_true
theorem r_Lalike0{Γ G}:∀ds M Q Z,spAlike 0 ds M Q Z→tss ⟨K,Γ,G⟩ noX b_Lalike {nx:=fun _ M=>Q .non M,rt:=Q} (start0 N_Lalike ds) M:=by
 rintro ds M Q Z ⟨x,y,rfl,⟨rfl,h⟩,q⟩
 exact alike_flat h q
theorem alike_end{Γ G}{n:Nat}(g:Γ[21]?=some (spAlike n)){M:Store}{Q:DK}{x y:D}{xs ys:List D}{d:Option D}(hl:xs.length=ys.length)(hs:xs.length≤100000)(h:∀(i:Nat) a b,xs[i]?=some a→ys[i]?=some b→AL M n a b)
  (lx:∀F:DK,F (.int xs.length) M→bfD K .len [x] M F) (ly:∀F:DK,F (.int ys.length) M→bfD K .len [y] M F) (ix:∀(i:Nat) a (F:D→Prop),xs[i]?=some a→F a→ixD M x (.int i) F) (iy:∀(i:Nat) a (F:D→Prop),ys[i]?=some a→F a→ixD M y (.int i) F) (q:Q (.bl true) M):
  tss ⟨K,Γ,G⟩ noX b_Lalike_4 {nx:=fun _ M=>Q .non M,rt:=Q} [some x,some y,d] M:=by
 simp only[b_Lalike_4]
 walk_at "ev"
 refine lx _ (ly _ ?_)
 walk_at "ev"
 rw[if_neg (by rw[hl];simp)]
 try walk_at "ev"
 simp only[b_Lalike_3]
 walk_at "ev"
 refine ly _ ⟨by omega,by omega,?_⟩
 try walk_at "ev"
 rw[Int.toNat_natCast]
 refine forD_rng (fun i σ M'=>∃d,σ=[some x,some y,d]∧M'=M) ⟨d,rfl,rfl⟩ ?_ ?_
 ·rintro i σ M' C hi ⟨d,rfl,rfl⟩ hC
  simp only[b_Lalike_2,Int.zero_add]
  walk_at "ev"
  refine ix i _ _ (List.getElem?_eq_getElem (by omega)) (iy i _ _ (List.getElem?_eq_getElem hi) ?_)
  simp only[g]
  refine⟨_,_,rfl,h i _ _ (List.getElem?_eq_getElem (by omega)) (List.getElem?_eq_getElem hi),?_⟩
  walk_at "ev"
  exact hC _ _ ⟨_,rfl,rfl⟩
 ·rintro σ M' ⟨d,rfl,rfl⟩
  simp only[b_Lalike_1]
  walk_at "ev"
  exact q
theorem r_LalikeS{Γ G}{n:Nat}(g:Γ[21]?=some (spAlike n)):∀ds M Q Z,spAlike (n+1) ds M Q Z→tss ⟨K,Γ,G⟩ noX b_Lalike {nx:=fun _ M=>Q .non M,rt:=Q} (start0 N_Lalike ds) M:=by
 rintro ds M Q Z ⟨x,y,rfl,h | ⟨xs,ys,rfl,rfl,hl,hs,h⟩ | ⟨m,k,xs,ys,rfl,rfl,h1,h2,hl,hs,h⟩,q⟩
 ·obtain⟨rfl,h⟩:=h
  exact alike_flat h q
 ·simp only[b_Lalike,N_Lalike]
  walk_at "ev"
  simp only[b_Lalike_7]
  walk_at "ev"
  simp only[b_Lalike_6]
  walk_at "ev"
  simp only[b_Lalike_5]
  walk_at "ev"
  exact alike_end g hl hs h (fun F f=>f) (fun F f=>f) (fun i a F e f=>⟨a,atI_nat e,f⟩) (fun i a F e f=>⟨a,atI_nat e,f⟩) q
 ·have i1:∀{t:Ty} {B:Bool→Prop},isD K M (.ref m) (.ty (tyName t)) B=B (tyLst t):=fun{t B}=>is_lst h1
  have i2:∀{t:Ty} {B:Bool→Prop},isD K M (.ref k) (.ty (tyName t)) B=B (tyLst t):=fun{t B}=>is_lst h2
  simp only[b_Lalike,N_Lalike]
  walk_at "ev"
  simp only[i2]
  walk_at "ev"
  simp only[b_Lalike_7]
  walk_at "ev"
  simp only[i2]
  walk_at "ev"
  simp only[b_Lalike_6]
  walk_at "ev"
  simp only[i2]
  walk_at "ev"
  simp only[b_Lalike_5]
  walk_at "ev"
  simp only[i1,i2]
  walk_at "ev"
  exact alike_end g hl hs h (fun F f=>bf_len_l (readW_readL h1) f) (fun F f=>bf_len_l (readW_readL h2) f) (fun i a F e f=>ix_l (readW_readL h1) e f) (fun i a F e f=>ix_l (readW_readL h2) e f) q
end
def spMixed:DSp:=fun ds M Q _=>∃c k:Int,ds=[.int c,.int k]∧0≤k∧k≤1000∧Q (.int (mix c k)) M
def spGreat:DSp:=fun ds M Q _=>∃i:Int,ds=[.int i]∧Bits (bigN+1) i∧∀v:Int,Bits 64 v→Q (.int v) M
section
variable{K:PySem.W.Frag}
theorem r_Lmixed{Γ G}:∀ds M Q Z,spMixed ds M Q Z→tss ⟨K,Γ,G⟩ noX b_Lmixed {nx:=fun _ M=>Q .non M,rt:=Q} (start0 N_Lmixed ds) M:=by
 rintro ds M Q Z ⟨c,k,rfl,h0,h1,q⟩
 simp only[b_Lmixed,N_Lmixed]
 walk_at "ev"
 rw[qm (by decide),qm (by decide)]
 have m1:=mixN_lo c k
 have m2:=mixN_hi c k
 refine⟨mulR (by decide) (by decide),mulL (by decide) (by decide),mulR (by omega) (by omega),?_⟩
 walk_at "ev"
 rw[qm (by decide)]
 exact⟨mulL (by show -(2 ^ 64)<mixN c k;omega) (by show mixN c k<2 ^ 64;omega),q⟩
theorem r_Lgreat{Γ G}:∀ds M Q Z,spGreat ds M Q Z→tss ⟨K,Γ,G⟩ noX b_Lgreat {nx:=fun _ M=>Q .non M,rt:=Q} (start0 N_Lgreat ds) M:=by
 rintro ds M Q Z ⟨i,rfl,hb,q⟩
 simp only[b_Lgreat,N_Lgreat]
 walk_at "ev"
 refine⟨⟨by decide,by decide,by decide⟩,mulOk_of hb (show Bits 300 ((982451653:Int) ^ 3) by unfold Bits;decide) (by decide),⟨by decide,by decide,by decide⟩,mulL (by decide) (by decide),by decide,⟨by decide,by decide,by decide⟩,?_⟩
 have e:(10:Int) ^ Int.toNat 18=1000000000000000000:=rfl
 rw[e,qm (by decide)]
 apply q
 have h1:=Int.emod_nonneg (i * 982451653 ^ Int.toNat 3) (show(2 * 1000000000000000000+1:Int)≠0 by decide)
 have h2:=Int.emod_lt_of_pos (i * 982451653 ^ Int.toNat 3) (show(0:Int)<2 * 1000000000000000000+1 by decide)
 generalize i * 982451653 ^ Int.toNat 3 % (2 * 1000000000000000000+1)=v at h1 h2
 unfold Bits
 omega
end
def dI:D→Int
 | .int i=>i
 | _=>0
def wI(kvs:List (Key×D)):Opd→Int
 | .no i=>i
 | .nm x=>dI ((valD kvs (Sum.inr x)).getD (.int 0))
def MI(n:Nat)(kvs:List (Key×D)):Prop:=∀k v,valD kvs k=some v→∃i,v= .int i∧Bits n i
def OB:Opd→Prop
 | .no i=>Bits 64 i
 | .nm _=>True
theorem MI.wth{n:Nat}{kvs:List (Key×D)}(h:MI n kvs)(hn:64≤n){o:Opd}(ho:OB o):Bits n (wI kvs o):=by
 cases o with
 | no i=>exact(show Bits 64 i from ho).mono hn
 | nm x=>
  show Bits n (dI ((valD kvs (Sum.inr x)).getD (.int 0)))
  cases e:valD kvs (Sum.inr x) with
  | none=>exact(show Bits 1 0 by unfold Bits;decide).mono (by omega)
  | some v=>obtain⟨i,rfl,hb⟩:=h _ _ e;exact hb
theorem MI.get{n:Nat}{kvs:List (Key×D)}(h:MI n kvs)(x:Str):(valD kvs (Sum.inr x)).getD (.int 0)= .int (wI kvs (.nm x)):=by
 show _=D.int (dI ((valD kvs (Sum.inr x)).getD (.int 0)))
 cases e:valD kvs (Sum.inr x) with
 | none=>rfl
 | some v=>obtain⟨i,rfl,hb⟩:=h _ _ e;rfl
theorem MI.put{n:Nat}{kvs:List (Key×D)}(h:MI n kvs)(k:Key){i:Int}(hi:Bits (n+1) i):MI (n+1) (putD kvs k (.int i)):=by
 intro j v e
 rw[valD_put] at e
 split at e
 ·cases e;exact⟨i,rfl,hi⟩
 ·obtain⟨w,rfl,hw⟩:=h j v e;exact⟨w,rfl,hw.mono (by omega)⟩
theorem MI.mono{n m:Nat}{kvs:List (Key×D)}(h:MI n kvs)(k:n≤m):MI m kvs:=fun j v e=>let ⟨i,a,b⟩:=h j v e;⟨i,a,b.mono k⟩
def mkS(sg:Str)(a b:Int):Option Int:=
 if sg="+" then some (a+b) else if sg="-" then some (a - b) else if sg="/" then(if b=0 then none else some (qdiv a b)) else if sg="rest" then(if b=0 then none else some (qmod a b)) else if sg="&" then some (Builtin.bitAnd a b) else some (Builtin.bitXor a b)
def hld(sg:Str)(a b:Int):Bool:=if sg="<" then decide (a<b) else decide (a=b)
theorem bits_rng{n:Nat}{x:Int}(h:Bits n x):-(2 ^ n:Nat)≤x∧x< (2 ^ n:Nat):=by unfold Bits at h;omega
theorem rng_bits{n:Nat}{x:Int}(h:-(2 ^ n:Nat)≤x∧x< (2 ^ n:Nat)):Bits (n+1) x:=by
 unfold Bits
 rw[Nat.pow_succ]
 omega
theorem mk_bits{n:Nat}{sg:Str}{a b v:Int}(ha:Bits n a)(hb:Bits n b)(h:mkS sg a b=some v):Bits (n+1) v:=by
 unfold mkS at h
 split at h
 ·cases h;exact ha.add hb
 split at h
 ·cases h
  have:Bits n (-b):=by unfold Bits at hb ⊢;rw[Int.natAbs_neg];exact hb
  have:=ha.add this
  rwa[←Int.sub_eq_add_neg] at this
 split at h
 ·split at h
  ·cases h
  ·cases h
   rename_i hb0
   refine Bits.mono (n:=n) ?_ (by omega)
   unfold Bits at ha ⊢
   rw[←qdiv_eq]
   exact Nat.lt_of_le_of_lt (Int.natAbs_fdiv_le_natAbs a b) ha
 split at h
 ·split at h
  ·cases h
  ·cases h
   rename_i hb0
   refine Bits.mono (n:=n) ?_ (by omega)
   unfold Bits at hb ⊢
   rw[←qmod_eq]
   rcases Int.lt_or_le 0 b with h0 | h0
   ·rw[Int.fmod_eq_emod_of_nonneg _ (by omega)]
    have:=Int.emod_nonneg a hb0
    have:=Int.emod_lt_of_pos a h0
    omega
   ·have e:=Int.neg_fmod_neg a b
    rw[Int.fmod_eq_emod_of_nonneg _ (by omega)] at e
    have:=Int.emod_nonneg (-a) (show -b≠0 by omega)
    have:=Int.emod_lt_of_pos (-a) (show 0< -b by omega)
    omega
 split at h
 ·cases h
  obtain⟨a1,a2⟩:=bits_rng ha
  obtain⟨b1,b2⟩:=bits_rng hb
  exact rng_bits (UB.range_and a1 a2 b1 b2)
 ·cases h
  obtain⟨a1,a2⟩:=bits_rng ha
  obtain⟨b1,b2⟩:=bits_rng hb
  exact rng_bits (UB.range_xor a1 a2 b1 b2)
def sumT(x:Str)(u:Int)(sg:Str)(v w:Int):D:= .tup [.str "sum",.str x,.int u,.str sg,.int v,.int w]
def testT(u:Int)(sg:Str)(v:Int)(b:Bool):D:= .tup [.str "test",.int u,.str sg,.int v,.bl b]
def stp(kvs:List (Key×D)):Nd→Option (D×List (Key×D)×Nat)
 | .sum x a sg b t=>(mkS sg (wI kvs a) (wI kvs b)).map fun w=>(sumT x (wI kvs a) sg (wI kvs b) w,putD kvs (Sum.inr x) (.int w),t)
 | .test a sg b y n=>some (testT (wI kvs a) sg (wI kvs b) (hld sg (wI kvs a) (wI kvs b)),kvs,if hld sg (wI kvs a) (wI kvs b)=true then y else n)
 | .fin=>none
 | .spin=>none
theorem stp_sum(kvs:List (Key×D))(x:Str)(a:Opd)(sg:Str)(b:Opd)(t:Nat):stp kvs (.sum x a sg b t)=(mkS sg (wI kvs a) (wI kvs b)).map fun w=>(sumT x (wI kvs a) sg (wI kvs b) w,putD kvs (Sum.inr x) (.int w),t):=rfl
def Nd.goes:Nd→Bool
 | .sum _ _ _ _ _=>true
 | .test _ _ _ _ _=>true
 | _=>false
def NB:Nd→Prop
 | .sum _ a _ b _=>OB a∧OB b
 | .test a sg b _ _=>OB a∧OB b∧(sg="<"∨sg="=")
 | _=>True
def onS{α:Type}(o:Option α)(F:α→Prop)(E:Prop):Prop:=match o with
 | some x=>F x
 | none=>E
structure Fine(n:Nat)(kvs:List (Key×D)):Prop where
 mi:MI n kvs
 lo:64≤n
 hi:n≤8000
theorem Fine.log{n:Nat}{kvs:List (Key×D)}(h:Fine n kvs){o:Opd}(ho:OB o):(wI kvs o).natAbs.log2<9000:=Nat.lt_of_lt_of_le (log2_lt_of (h.mi.wth h.lo ho) (by have:=h.lo;omega)) (by have:=h.hi;omega)
def spQuo(B:Addr)(f:Int→Int→Int):DSp:=fun ds M Q Z=>∃a b:Int,ds=[.int a,.int b]∧b.natAbs.log2<9000∧(if b=0 then Z B .non M else Q (.int (f a b)) M)
def spMade(B:Addr):DSp:=fun ds M Q Z=>∃(sg:Str) (a b:Int),ds=[.str sg,.int a,.int b]∧b.natAbs.log2<9000∧onS (mkS sg a b) (fun v=>Q (.int v) M) (Z B .non M)
def spHolds:DSp:=fun ds M Q _=>∃(sg:Str) (a b:Int),ds=[.str sg,.int a,.int b]∧Q (.bl (hld sg a b)) M
def spWorth:DSp:=fun ds M Q _=>∃(o:Opd) (h n:Nat) (kvs:List (Key×D)),ds=[o.d,.ref h]∧readD M h=some kvs∧MI n kvs∧Q (.int (wI kvs o)) M
def spDeedSum(B:Addr):DSp:=fun ds M Q Z=>∃(x:Str) (a:Opd) (sg:Str) (b:Opd) (t h n:Nat) (kvs:List (Key×D)),ds=[.str x,a.d,.str sg,b.d,.ref h]∧readD M h=some kvs∧Fine n kvs∧OB b∧onS (stp kvs (.sum x a sg b t)) (fun s=>Q s.1 M) (Z B .non M)
def spDeedTest:DSp:=fun ds M Q _=>∃(a:Opd) (sg:Str) (b:Opd) (h n:Nat) (kvs:List (Key×D)),ds=[a.d,.str sg,b.d,.ref h]∧readD M h=some kvs∧Fine n kvs∧Q (testT (wI kvs a) sg (wI kvs b) (hld sg (wI kvs a) (wI kvs b))) M
def spDeedOf(B:Addr):DSp:=fun ds M Q Z=>∃(d:Nd) (h n:Nat) (kvs:List (Key×D)),ds=[d.d,.ref h]∧readD M h=some kvs∧Fine n kvs∧NB d∧d.goes=true∧onS (stp kvs d) (fun s=>Q s.1 M) (Z B .non M)
def Bh(h:Nat)(dd:D)(M:Store)(Q:DK):Nd→Prop
 | .sum x _ _ _ t=>∃s0 s1 s2 s3 s4 v kvs,dd= .tup [s0,s1,s2,s3,s4,v]∧readD M h=some kvs∧kvs.length<sizeLine∧Q (.int (t:Nat)) (M.set h (.dct (putD kvs (Sum.inr x) v)))
 | .test _ _ _ y n=>∃s0 s1 s2 s3 b,dd= .tup [s0,s1,s2,s3,.bl b]∧Q (.int ((if b=true then y else n:Nat):Int)) M
 | .fin=>False
 | .spin=>False
def spBehind:DSp:=fun ds M Q _=>∃(n:Nd) (dd:D) (h:Nat),ds=[n.d,dd,.ref h]∧Bh h dd M Q n
section
variable{K:PySem.W.Frag}{J B:Addr}
theorem r_quotient{Γ}:∀ds M Q Z,spQuo B qdiv ds M Q Z→tss ⟨K,Γ,[.cls J,.cls B]⟩ Z b_quotient {nx:=fun _ M=>Q .non M,rt:=Q} (start0 N_quotient ds) M:=by
 rintro ds M Q Z ⟨a,b,rfl,hb,q⟩
 simp only[b_quotient,N_quotient]
 walk_at "ev"
 by_cases h:b=0
 ·rw[if_pos h] at q ⊢
  walk_at "ev"
  exact q
 ·rw[if_neg h] at q ⊢
  simp only[b_quotient_1]
  walk_at "ev"
  exact⟨⟨h,hb⟩,q⟩
theorem r_rest{Γ}:∀ds M Q Z,spQuo B qmod ds M Q Z→tss ⟨K,Γ,[.cls J,.cls B]⟩ Z b_rest {nx:=fun _ M=>Q .non M,rt:=Q} (start0 N_rest ds) M:=by
 rintro ds M Q Z ⟨a,b,rfl,hb,q⟩
 simp only[b_rest,N_rest]
 walk_at "ev"
 by_cases h:b=0
 ·rw[if_pos h] at q ⊢
  walk_at "ev"
  exact q
 ·rw[if_neg h] at q ⊢
  simp only[b_rest_1]
  walk_at "ev"
  exact⟨h,q⟩
theorem r_made{Γ G}(g0:Γ[0]?=some (spQuo B qdiv))(g1:Γ[1]?=some (spQuo B qmod)):∀ds M Q Z,spMade B ds M Q Z→tss ⟨K,Γ,G⟩ Z b_made {nx:=fun _ M=>Q .non M,rt:=Q} (start0 N_made ds) M:=by
 rintro ds M Q Z ⟨sg,a,b,rfl,hb,q⟩
 unfold mkS at q
 simp only[b_made,N_made]
 walk_at "ev"
 by_cases h:sg="+"
 ·rw[if_pos h] at q ⊢
  try walk_at "ev"
  exact q
 rw[if_neg h] at q ⊢
 simp only[b_made_5]
 walk_at "ev"
 by_cases h:sg="-"
 ·rw[if_pos h] at q ⊢
  try walk_at "ev"
  exact q
 rw[if_neg h] at q ⊢
 simp only[b_made_4]
 walk_at "ev"
 by_cases h:sg="/"
 ·rw[if_pos h] at q ⊢
  try walk_at "ev"
  refine⟨a,b,rfl,hb,?_⟩
  split
  ·rename_i e;rw[if_pos e] at q;exact q
  ·rename_i e;rw[if_neg e] at q;exact q
 rw[if_neg h] at q ⊢
 simp only[b_made_3]
 walk_at "ev"
 by_cases h:sg="rest"
 ·rw[if_pos h] at q ⊢
  try walk_at "ev"
  refine⟨a,b,rfl,hb,?_⟩
  split
  ·rename_i e;rw[if_pos e] at q;exact q
  ·rename_i e;rw[if_neg e] at q;exact q
 rw[if_neg h] at q ⊢
 simp only[b_made_2]
 walk_at "ev"
 by_cases h:sg="&"
 ·rw[if_pos h] at q ⊢
  try walk_at "ev"
  exact q
 rw[if_neg h] at q ⊢
 simp only[b_made_1]
 walk_at "ev"
 exact q
theorem r_holds{Γ G}:∀ds M Q Z,spHolds ds M Q Z→tss ⟨K,Γ,G⟩ noX b_holds {nx:=fun _ M=>Q .non M,rt:=Q} (start0 N_holds ds) M:=by
 rintro ds M Q Z ⟨sg,a,b,rfl,q⟩
 unfold hld at q
 simp only[b_holds,N_holds]
 walk_at "ev"
 by_cases h:sg="<"
 ·rw[if_pos h] at q ⊢
  try walk_at "ev"
  exact q
 rw[if_neg h] at q ⊢
 simp only[b_holds_1]
 walk_at "ev"
 exact q
theorem r_worth{Γ G}:∀ds M Q Z,spWorth ds M Q Z→tss ⟨K,Γ,G⟩ noX b_worth {nx:=fun _ M=>Q .non M,rt:=Q} (start0 N_worth ds) M:=by
 rintro ds M Q Z ⟨o,h,n,kvs,rfl,hd,hm,q⟩
 simp only[b_worth,N_worth]
 cases o with
 | no i=>
  simp only[Opd.d]
  walk_at "ev"
  simp only[b_worth_1]
  walk_at "ev"
  exact q
 | nm x=>
  simp only[Opd.d]
  walk_at "ev"
  refine⟨by rw[hd];rfl,kvs,_,hd,rfl,?_⟩
  rw[hm.get]
  exact q
theorem r_deed_of_sum{Γ G}(g2:Γ[2]?=some (spMade B))(g4:Γ[4]?=some spWorth):∀ds M Q Z,spDeedSum B ds M Q Z→tss ⟨K,Γ,G⟩ Z b_deed_of_sum {nx:=fun _ M=>Q .non M,rt:=Q} (start0 N_deed_of_sum ds) M:=by
 rintro ds M Q Z ⟨x,a,sg,b,t,h,n,kvs,rfl,hd,fi,hb,q⟩
 simp only[b_deed_of_sum,N_deed_of_sum]
 walk_at "ev"
 refine⟨a,h,n,kvs,rfl,hd,fi.mi,?_⟩
 walk_at "ev"
 refine⟨b,h,n,kvs,rfl,hd,fi.mi,?_⟩
 walk_at "ev"
 refine⟨sg,_,_,rfl,fi.log hb,?_⟩
 rw[stp_sum] at q
 cases e:mkS sg (wI kvs a) (wI kvs b) with
 | none=>rw[e] at q;exact q
 | some w=>rw[e] at q;exact⟨sizeLine_ge (by decide),q⟩
theorem r_deed_of_test{Γ G}(g3:Γ[3]?=some spHolds)(g4:Γ[4]?=some spWorth):∀ds M Q Z,spDeedTest ds M Q Z→tss ⟨K,Γ,G⟩ noX b_deed_of_test {nx:=fun _ M=>Q .non M,rt:=Q} (start0 N_deed_of_test ds) M:=by
 rintro ds M Q Z ⟨a,sg,b,h,n,kvs,rfl,hd,fi,q⟩
 simp only[b_deed_of_test,N_deed_of_test]
 walk_at "ev"
 refine⟨a,h,n,kvs,rfl,hd,fi.mi,?_⟩
 walk_at "ev"
 refine⟨b,h,n,kvs,rfl,hd,fi.mi,?_⟩
 walk_at "ev"
 exact⟨sg,_,_,rfl,sizeLine_ge (by decide),q⟩
theorem r_deed_of{Γ G}(g5:Γ[5]?=some (spDeedSum B))(g6:Γ[6]?=some spDeedTest):∀ds M Q Z,spDeedOf B ds M Q Z→tss ⟨K,Γ,G⟩ Z b_deed_of {nx:=fun _ M=>Q .non M,rt:=Q} (start0 N_deed_of ds) M:=by
 rintro ds M Q Z ⟨d,h,n,kvs,rfl,hd,fi,nb,go,q⟩
 simp only[b_deed_of,N_deed_of]
 cases d with
 | sum x a sg b t=>
  simp only[Nd.d]
  walk_at "ev"
  refine⟨_,rfl,?_⟩
  walk_at "ev"
  refine⟨_,rfl,_,rfl,_,rfl,_,rfl,?_⟩
  try walk_at "ev"
  exact⟨x,a,sg,b,t,h,n,kvs,rfl,hd,fi,nb.2,q⟩
 | test a sg b y z=>
  simp only[Nd.d]
  walk_at "ev"
  refine⟨_,rfl,?_⟩
  walk_at "ev"
  rw[if_neg (by decide+kernel)]
  try walk_at "ev"
  simp only[b_deed_of_1]
  walk_at "ev"
  refine⟨_,rfl,_,rfl,_,rfl,?_⟩
  try walk_at "ev"
  exact⟨a,sg,b,h,n,kvs,rfl,hd,fi,q⟩
 | fin=>cases go
 | spin=>cases go
theorem r_behind{Γ G}:∀ds M Q Z,spBehind ds M Q Z→tss ⟨K,Γ,G⟩ noX b_behind {nx:=fun _ M=>Q .non M,rt:=Q} (start0 N_behind ds) M:=by
 rintro ds M Q Z ⟨n,dd,h,rfl,q⟩
 simp only[b_behind,N_behind]
 cases n with
 | sum x a sg b t=>
  obtain⟨s0,s1,s2,s3,s4,v,kvs,rfl,hd,hl,q⟩:=q
  simp only[Nd.d]
  walk_at "ev"
  refine⟨_,rfl,?_⟩
  walk_at "ev"
  refine⟨_,rfl,_,rfl,.inr ⟨kvs,_,hd,rfl,hl,?_⟩⟩
  try walk_at "ev"
  exact⟨_,rfl,q⟩
 | test a sg b y n=>
  obtain⟨s0,s1,s2,s3,bb,rfl,q⟩:=q
  simp only[Nd.d]
  walk_at "ev"
  refine⟨_,rfl,?_⟩
  walk_at "ev"
  rw[if_neg (by decide+kernel)]
  try walk_at "ev"
  simp only[b_behind_1]
  walk_at "ev"
  refine⟨_,rfl,?_⟩
  try walk_at "ev"
  cases bb with
  | true=>exact⟨_,rfl,q⟩
  | false=>exact⟨_,rfl,q⟩
 | fin=>exact q.elim
 | spin=>exact q.elim
end
def wrd:Option Nd→Str
 | some .fin=>"end"
 | _=>"on"
def runN(nds:List Nd):Nat→Nat→List (Key×D)→List D×Str×List (Key×D)
 | 0,pl,kv=>([],wrd nds[pl]?,kv)
 | k+1,pl,kv=>match nds[pl]? with
  | some n=>match stp kv n with
   | some s=>(s.1::(runN nds k s.2.2 s.2.1).1,(runN nds k s.2.2 s.2.1).2)
   | none=>([],if n.goes=true then "fault" else wrd (some n),kv)
  | none=>([],"on",kv)
theorem runN_stp{nds:List Nd}{k pl:Nat}{kv:List (Key×D)}{n:Nd}{s:D×List (Key×D)×Nat}(h:nds[pl]?=some n)(e:stp kv n=some s):runN nds (k+1) pl kv=(s.1::(runN nds k s.2.2 s.2.1).1,(runN nds k s.2.2 s.2.1).2):=by
 show(match nds[pl]? with | some n=>(match stp kv n with | some s=>(s.1::(runN nds k s.2.2 s.2.1).1,(runN nds k s.2.2 s.2.1).2) | none=>([],if n.goes=true then "fault" else wrd (some n),kv)) | none=>([],"on",kv))=_
 rw[h];dsimp only;rw[e]
theorem runN_bad{nds:List Nd}{k pl:Nat}{kv:List (Key×D)}{n:Nd}(h:nds[pl]?=some n)(g:n.goes=true)(e:stp kv n=none):runN nds (k+1) pl kv=([],("fault":Str),kv):=by
 show(match nds[pl]? with | some n=>(match stp kv n with | some s=>(s.1::(runN nds k s.2.2 s.2.1).1,(runN nds k s.2.2 s.2.1).2) | none=>([],if n.goes=true then "fault" else wrd (some n),kv)) | none=>([],"on",kv))=_
 rw[h];dsimp only;rw[e,g];rfl
theorem runN_end{nds:List Nd}{k pl:Nat}{kv:List (Key×D)}{n:Nd}(h:nds[pl]?=some n)(g:n.goes=false∨k=0):runN nds k pl kv=([],wrd (some n),kv):=by
 cases k with
 | zero=>show([],wrd nds[pl]?,kv)=_;rw[h]
 | succ k=>
  have g:=g.resolve_right (Nat.succ_ne_zero k)
  have e:stp kv n=none:=by cases n<;>first | rfl | cases g
  show(match nds[pl]? with | some n=>(match stp kv n with | some s=>(s.1::(runN nds k s.2.2 s.2.1).1,(runN nds k s.2.2 s.2.1).2) | none=>([],if n.goes=true then "fault" else wrd (some n),kv)) | none=>([],"on",kv))=_
  rw[h];dsimp only;rw[e,g];rfl
def NdsOk(nds:List Nd):Prop:=∀n∈nds,NB n∧∀t∈n.gs,t<nds.length
theorem putD_len1(m:List (Key×D))(k:Key)(v:D):(putD m k v).length≤m.length+1:=by
 unfold putD
 split
 ·rw[List.length_map];omega
 ·rw[List.length_append,List.length_singleton];exact Nat.le_refl _
theorem stp_keeps{n:Nat}{kv:List (Key×D)}{d:Nd}{s:D×List (Key×D)×Nat}(h:MI n kv)(hn:64≤n)(nb:NB d)(e:stp kv d=some s):MI (n+1) s.2.1∧s.2.1.length≤kv.length+1∧s.2.2∈d.gs:=by
 cases d with
 | sum x a sg b t=>
  rw[stp_sum,Option.map_eq_some_iff] at e
  obtain⟨w,e,rfl⟩:=e
  exact⟨h.put _ (mk_bits (h.wth hn nb.1) (h.wth hn nb.2) e),putD_len1 _ _ _,by simp[Nd.gs]⟩
 | test a sg b y z=>
  cases e
  refine⟨h.mono (by omega),by dsimp only;omega,?_⟩
  dsimp only
  split<;>simp[Nd.gs]
 | fin=>cases e
 | spin=>cases e
def spRunFrom:DSp:=fun ds M Q _=>∃(a pl mm most:Nat) (nds:List Nd) (kvs:List (Key×D)),ds=[.ref a,.int (pl:Nat),.ref mm,.int (most:Nat)]∧readL M a=some (nds.map Nd.d)∧readD M mm=some kvs∧NdsOk nds∧pl<nds.length∧MI 64 kvs∧kvs.length≤50∧most≤1000∧
 Q (.tup [.ref (M.length+1),.str (runN nds most pl kvs).2.1,.ref M.length]) (M++[.dct (runN nds most pl kvs).2.2,.lst (runN nds most pl kvs).1])
section
variable{K:PySem.W.Frag}{J B:Addr}
theorem r_run_from{Γ}(hc:Catch K B B true)(g7:Γ[7]?=some spBehind)(g8:Γ[8]?=some (spDeedOf B)):∀ds M Q Z,spRunFrom ds M Q Z→tss ⟨K,Γ,[.cls J,.cls B]⟩ noX b_run_from {nx:=fun _ M=>Q .non M,rt:=Q} (start0 N_run_from ds) M:=by
 rintro ds M Q Z ⟨a,p0,mm,most,nds,kvs,rfl,ha,hd,ok,hp0,mi0,kl0,hmost,q⟩
 simp only[b_run_from,N_run_from]
 walk_at "ev"
 refine .inl ⟨kvs,hd,?_⟩
 walk_at "ev"
 refine⟨sizeLine_ge (by decide),?_⟩
 walk_at "ev"
 rw[show(M++[Cell.dct kvs]:Store).length=M.length+1 by simp,List.append_assoc,List.cons_append,List.nil_append]
 have rN:∀c d,readL (M++[c,d]) a=some (nds.map Nd.d):=fun c d=>readL_app ha
 have rH:∀kv d,readD (M++[.dct kv,d]) M.length=some kv:=fun kv d=>readD_end _ _ _
 have rDs:∀c xs,readW (M++[c,.lst xs]) (M.length+1)=some xs:=fun c xs=>by rw[readW_endk];rfl
 have sDs:∀c e xs,(M++[c,e]:Store).set (M.length+1) (.lst xs)=M++[c,.lst xs]:=fun c e xs=>by rw[set_endk];rfl
 have sH:∀c e d,(M++[c,e]:Store).set M.length d=M++[d,e]:=fun c e d=>set_end _ _ _ _
 have get:∀{i:Nat} {n:Nd},nds[i]?=some n→(nds.map Nd.d)[i]?=some n.d:=fun h=>by rw[List.getElem?_map,h];rfl
 refine⟨fun k σ M'=>∃(pl:Nat) (kv:List (Key×D)) (dsd:List D) (d7:Option D),σ=[some (.ref a),some (.int (p0:Nat)),some (.ref mm),some (.int (most:Nat)),some (.ref M.length),some (.ref (M.length+1)),some (.int (pl:Nat)),d7,none]∧M'=M++[.dct kv,.lst dsd]∧dsd.length+k=most∧pl<nds.length∧MI (64+dsd.length) kv∧kv.length≤50+dsd.length∧(dsd++(runN nds k pl kv).1,(runN nds k pl kv).2)=runN nds most p0 kvs,
  ⟨most,p0,kvs,[],none,rfl,rfl,Nat.zero_add _,hp0,mi0,kl0,rfl⟩,?_⟩
 rintro k σ M' ⟨pl,kv,dsd,d7,rfl,rfl,hk,hpl,mi,kl,inv⟩
 obtain⟨n,hn⟩:∃n,nds[pl]?=some n:=⟨_,List.getElem?_eq_getElem hpl⟩
 obtain⟨nb,ngs⟩:=ok n (List.mem_of_getElem? hn)
 have out:n.goes=false∨k=0→tss ⟨K,Γ,[.cls J,.cls B]⟩ noX b_run_from_1 {nx:=fun _ M=>Q .non M,rt:=Q} [some (.ref a),some (.int (p0:Nat)),some (.ref mm),some (.int (most:Nat)),some (.ref M.length),some (.ref (M.length+1)),some (.int (pl:Nat)),d7,none] (M++[.dct kv,.lst dsd]):=by
  intro hg
  have q':=q
  rw[←inv,runN_end hn hg,List.append_nil] at q'
  simp only[b_run_from_1]
  walk_at "ev"
  refine ix_l (rN _ _) (get hn) ?_
  cases n with
  | fin=>
   simp only[Nd.d]
   walk_at "ev"
   refine⟨_,rfl,?_⟩
   walk_at "ev"
   exact⟨sizeLine_ge (by decide),q'⟩
  | _=>
   simp only[Nd.d]
   walk_at "ev"
   refine⟨_,rfl,?_⟩
   walk_at "ev"
   rw[if_neg (by decide+kernel)]
   try walk_at "ev"
   exact⟨sizeLine_ge (by decide),q'⟩
 have tests:∀(T E0:Store→Prop),(n.goes=true→0<k→T (M++[.dct kv,.lst dsd]))→(n.goes=false∨k=0→E0 (M++[.dct kv,.lst dsd]))→
   ixD (M++[.dct kv,.lst dsd]) (.ref a) (.int (pl:Nat)) fun d=>ixD (M++[.dct kv,.lst dsd]) d (.int 0) fun d=>2≤sizeLine∧inQ (M++[.dct kv,.lst dsd]) d (.tup [.str "sum",.str "test"]) fun r=>
    if r=true then bfD K .len [.ref (M.length+1)] (M++[.dct kv,.lst dsd]) fun z M1=>cmD M1 .lt z (.int (most:Nat)) fun r=>if r=true then T M1 else E0 M1
    else if r=true then T (M++[.dct kv,.lst dsd]) else E0 (M++[.dct kv,.lst dsd]):=by
  intro T E0 hT hE
  have yes:∀(r:Bool),r=true→n.goes=true→(if r=true then bfD K .len [.ref (M.length+1)] (M++[.dct kv,.lst dsd]) fun z M1=>cmD M1 .lt z (.int (most:Nat)) fun r=>if r=true then T M1 else E0 M1
    else if r=true then T (M++[.dct kv,.lst dsd]) else E0 (M++[.dct kv,.lst dsd])):=by
   rintro r rfl hg
   rw[if_pos rfl]
   refine bf_len_l (readW_readL (rDs _ _)) ?_
   show if decide ((dsd.length:Int)< (most:Int))=true then _ else _
   by_cases hl:dsd.length<most
   ·rw[if_pos (by simpa using hl)]
    exact hT hg (by omega)
   ·rw[if_neg (by simpa using hl)]
    exact hE (.inr (by omega))
  refine ix_l (rN _ _) (get hn) ?_
  cases n with
  | fin=>exact⟨_,rfl,sizeLine_ge (by decide),rfl,rfl,hE (.inl rfl)⟩
  | spin=>exact⟨_,rfl,sizeLine_ge (by decide),rfl,rfl,hE (.inl rfl)⟩
  | sum y o1 sg o2 t=>exact⟨_,rfl,sizeLine_ge (by decide),rfl,rfl,yes _ rfl rfl⟩
  | test o1 sg o2 t1 t2=>exact⟨_,rfl,sizeLine_ge (by decide),rfl,rfl,yes _ rfl rfl⟩
 walk_at "ev"
 refine tests _ _ (fun hg hk0=>?_) out
 obtain⟨k,rfl⟩:∃k',k=k'+1:=⟨k - 1,by omega⟩
 try dsimp only
 simp only[b_run_from_3]
 walk_at "ev"
 refine ix_l (rN _ _) (get hn) ?_
 try walk_at "ev"
 refine⟨n,M.length,64+dsd.length,kv,rfl,rH _ _,⟨mi,by omega,by omega⟩,nb,hg,?_⟩
 cases e:stp kv n with
 | none=>
  refine⟨hc,?_⟩
  try walk_at "ev"
  refine⟨sizeLine_ge (by decide),?_⟩
  rw[←inv,runN_bad hn hg e,List.append_nil] at q
  exact q
 | some s=>
  obtain⟨mi',len',gs'⟩:=stp_keeps mi (by omega) nb e
  rw[runN_stp hn e] at inv
  have hs:=ngs _ gs'
  show _
  dsimp only[onS]
  try walk_at "ev"
  simp only[b_run_from_2]
  walk_at "ev"
  refine⟨isSome_of (readW_readL (rDs _ _)),_,rDs _ _,sizeLine_gt (by omega),?_⟩
  rw[sDs]
  try walk_at "ev"
  refine ix_l (rN _ _) (get hn) ?_
  try walk_at "ev"
  have fin:∀d7,∃m',m'<k+1∧∃(pl:Nat) (kv':List (Key×D)) (dsd':List D) (d:Option D),[some (.ref a),some (.int (p0:Nat)),some (.ref mm),some (.int (most:Nat)),some (.ref M.length),some (.ref (M.length+1)),some (.int (s.2.2:Nat)),d7,none]=[some (.ref a),some (.int (p0:Nat)),some (.ref mm),some (.int (most:Nat)),some (.ref M.length),some (.ref (M.length+1)),some (.int (pl:Nat)),d,none]∧(M++[.dct s.2.1,.lst (dsd++[s.1])]:Store)=M++[.dct kv',.lst dsd']∧dsd'.length+m'=most∧pl<nds.length∧MI (64+dsd'.length) kv'∧kv'.length≤50+dsd'.length∧(dsd'++(runN nds m' pl kv').1,(runN nds m' pl kv').2)=runN nds most p0 kvs:=by
   intro d7
   refine⟨k,by omega,s.2.2,s.2.1,dsd++[s.1],d7,rfl,rfl,by rw[List.length_append,List.length_singleton];omega,hs,by rw[List.length_append,List.length_singleton];exact mi',by rw[List.length_append,List.length_singleton];omega,?_⟩
   rw[←inv,List.append_assoc]
   rfl
  cases n with
  | sum x o1 sg o2 t=>
   rw[stp_sum,Option.map_eq_some_iff] at e
   obtain⟨w,e,rfl⟩:=e
   refine⟨_,_,M.length,rfl,_,_,_,_,_,_,_,rfl,rH _ _,sizeLine_gt (by omega),?_⟩
   rw[sH]
   try walk_at "ev"
   exact fin _
  | test o1 sg o2 y z=>
   cases e
   refine⟨_,_,M.length,rfl,_,_,_,_,_,rfl,?_⟩
   try walk_at "ev"
   exact fin _
  | fin=>cases hg
  | spin=>cases hg
end
def chs(rows:List Rw):Nat→Nat→Option Nat
 | 0,_=>none
 | f+1,p=>match jmp rows p with
  | some q=>chs rows f q
  | none=>some p
def runG(nds:List Nd)(f:Nat→Option Nat):Nat→Option Nat→List (Key×D)→List D×Str×List (Key×D)
 | _,none,kv=>([],"on",kv)
 | 0,some p,kv=>([],wrd nds[p]?,kv)
 | k+1,some p,kv=>match nds[p]? with
  | some n=>match stp kv n with
   | some s=>(s.1::(runG nds f k (f s.2.2) s.2.1).1,(runG nds f k (f s.2.2) s.2.1).2)
   | none=>([],if n.goes=true then "fault" else wrd (some n),kv)
  | none=>([],"on",kv)
def nds0(rows:List Rw):List Nd:=nodesOf rows (fun p=>p)
def lawC(rows:List Rw)(k:Nat)(c:Option Nat)(kv:List (Key×D)):List D×Str×List (Key×D):=runG (nds0 rows) (chs rows (rows.length+1)) k c kv
theorem lawC_none(rows:List Rw)(k:Nat)(kv:List (Key×D)):lawC rows k none kv=([],("on":Str),kv):=by unfold lawC;cases k<;>rfl
theorem lawC_stp{rows:List Rw}{k p:Nat}{kv:List (Key×D)}{n:Nd}{s:D×List (Key×D)×Nat}(h:(nds0 rows)[p]?=some n)(e:stp kv n=some s):lawC rows (k+1) (some p) kv=(s.1::(lawC rows k (chs rows (rows.length+1) s.2.2) s.2.1).1,(lawC rows k (chs rows (rows.length+1) s.2.2) s.2.1).2):=by
 unfold lawC
 show(match (nds0 rows)[p]? with | some n=>(match stp kv n with | some s=>(s.1::(runG (nds0 rows) (chs rows (rows.length+1)) k (chs rows (rows.length+1) s.2.2) s.2.1).1,(runG (nds0 rows) (chs rows (rows.length+1)) k (chs rows (rows.length+1) s.2.2) s.2.1).2) | none=>([],if n.goes=true then "fault" else wrd (some n),kv)) | none=>([],"on",kv))=_
 rw[h];dsimp only;rw[e]
theorem lawC_bad{rows:List Rw}{k p:Nat}{kv:List (Key×D)}{n:Nd}(h:(nds0 rows)[p]?=some n)(g:n.goes=true)(e:stp kv n=none):lawC rows (k+1) (some p) kv=([],("fault":Str),kv):=by
 unfold lawC
 show(match (nds0 rows)[p]? with | some n=>(match stp kv n with | some s=>(s.1::(runG (nds0 rows) (chs rows (rows.length+1)) k (chs rows (rows.length+1) s.2.2) s.2.1).1,(runG (nds0 rows) (chs rows (rows.length+1)) k (chs rows (rows.length+1) s.2.2) s.2.1).2) | none=>([],if n.goes=true then "fault" else wrd (some n),kv)) | none=>([],"on",kv))=_
 rw[h];dsimp only;rw[e,g];rfl
theorem lawC_end{rows:List Rw}{k p:Nat}{kv:List (Key×D)}{n:Nd}(h:(nds0 rows)[p]?=some n)(g:n.goes=false∨k=0):lawC rows k (some p) kv=([],wrd (some n),kv):=by
 unfold lawC
 cases k with
 | zero=>show([],wrd (nds0 rows)[p]?,kv)=_;rw[h]
 | succ k=>
  have g:=g.resolve_right (Nat.succ_ne_zero k)
  have e:stp kv n=none:=by cases n<;>first | rfl | cases g
  show(match (nds0 rows)[p]? with | some n=>(match stp kv n with | some s=>(s.1::(runG (nds0 rows) (chs rows (rows.length+1)) k (chs rows (rows.length+1) s.2.2) s.2.1).1,(runG (nds0 rows) (chs rows (rows.length+1)) k (chs rows (rows.length+1) s.2.2) s.2.1).2) | none=>([],if n.goes=true then "fault" else wrd (some n),kv)) | none=>([],"on",kv))=_
  rw[h];dsimp only;rw[e,g];rfl
theorem chs_jump{rows:List Rw}{f p q:Nat}(h:jmp rows p=some q):chs rows (f+1) p=chs rows f q:=by
 show(match jmp rows p with | some q=>chs rows f q | none=>some p)=_
 rw[h]
theorem chs_stay{rows:List Rw}{f p:Nat}(h:jmp rows p=none):chs rows (f+1) p=some p:=by
 show(match jmp rows p with | some q=>chs rows f q | none=>some p)=_
 rw[h]
theorem chs_some{rows:List Rw}(ok:RwOk rows){L:Nat→Nat}(ln:Lands rows L):∀(f p r:Nat),p<rows.length→chs rows f p=some r→L p=r∧jmp rows r=none∧r<rows.length
 | 0,p,r,_,h=>by cases h
 | f+1,p,r,hp,h=>by
  cases e:jmp rows p with
  | none=>rw[chs_stay e] at h;cases h;exact⟨ln.no _ hp e,e,hp⟩
  | some q=>
   rw[chs_jump e] at h
   obtain⟨a,b,c⟩:=chs_some ok ln f q r (jmp_lt ok e) h
   exact⟨(ln.yes _ _ hp e).trans a,b,c⟩
def itJ(J:Nat→Option Nat):Nat→Nat→Option Nat
 | 0,p=>some p
 | n+1,p=>match itJ J n p with
  | some q=>J q
  | none=>none
theorem itJ_up{J:Nat→Option Nat}{n p q:Nat}(h:itJ J n p=some q):itJ J (n+1) p=J q:=by
 show(match itJ J n p with | some q=>J q | none=>none)=_
 rw[h]
theorem itJ_first{J:Nat→Option Nat}{p q:Nat}(h:J p=some q):∀n,itJ J (n+1) p=itJ J n q
 | 0=>by rw[itJ_up (show itJ J 0 p=some p from rfl)];exact h
 | n+1=>by
  show(match itJ J (n+1) p with | some q=>J q | none=>none)=(match itJ J n q with | some q=>J q | none=>none)
  rw[itJ_first h n]
theorem itJ_below{J:Nat→Option Nat}{p:Nat}:∀{n m:Nat},m≤n→(itJ J n p).isSome=true→(itJ J m p).isSome=true
 | 0,m,h,e=>by rw[Nat.le_zero.mp h];exact e
 | n+1,m,h,e=>by
  rcases Nat.lt_or_eq_of_le h with h | h
  ·refine itJ_below (Nat.le_of_lt_succ h) ?_
   cases e2:itJ J n p with
   | some q=>rfl
   | none=>
    have:itJ J (n+1) p=none:=by show(match itJ J n p with | some q=>J q | none=>none)=_;rw[e2]
    rw[this] at e;cases e
  ·rw[h];exact e
theorem itJ_same{J:Nat→Option Nat}{p i j:Nat}(h:itJ J i p=itJ J j p):∀d,itJ J (i+d) p=itJ J (j+d) p
 | 0=>h
 | d+1=>by
  show(match itJ J (i+d) p with | some q=>J q | none=>none)=(match itJ J (j+d) p with | some q=>J q | none=>none)
  rw[itJ_same h d]
theorem orb_it{J:Nat→Option Nat}{p r:Nat}(h:LN.Orb J p r):∃t,itJ J t p=some r:=by
 induction h with
 | refl p=>exact⟨0,rfl⟩
 | step e _ ih=>obtain⟨t,ht⟩:=ih;exact⟨t+1,by rw[itJ_first e];exact ht⟩
theorem it_few{J:Nat→Option Nat}{N p r t:Nat}(lt:∀p q,p<N→J p=some q→q<N)(hp:p<N)(h:itJ J t p=some r)(hr:J r=none):t<N:=by
 have some_:∀i,i≤t→∃q,itJ J i p=some q∧q<N:=by
  intro i hi
  induction i with
  | zero=>exact⟨p,rfl,hp⟩
  | succ i ih=>
   obtain⟨q,e,hq⟩:=ih (by omega)
   have:=itJ_below hi (by rw[h];rfl)
   obtain⟨q2,e2⟩:=Option.isSome_iff_exists.mp this
   rw[itJ_up e] at e2
   exact⟨q2,by rw[itJ_up e];exact e2,lt _ _ hq e2⟩
 have inj:∀i j,i<j→j≤t→itJ J i p≠itJ J j p:=by
  intro i j hij hj e
  have e2:=itJ_same e (t - j)
  rw[show j+(t - j)=t by omega,h] at e2
  have e3:=itJ_up e2
  rw[hr] at e3
  obtain⟨q,e4,_⟩:=some_ (i+(t - j)+1) (by omega)
  rw[e3] at e4;cases e4
 have:=ND.nodup_len N ((List.range (t+1)).map fun i=>(itJ J i p).getD 0) ?_ ?_
 ·rw[List.length_map,List.length_range] at this;omega
 ·rw[List.nodup_iff_pairwise_ne,List.pairwise_map]
  refine List.Pairwise.imp_of_mem ?_ List.pairwise_lt_range
  intro i j hi hj hij e
  rw[List.mem_range] at hi hj
  obtain⟨q1,e1,_⟩:=some_ i (by omega)
  obtain⟨q2,e2,_⟩:=some_ j (by omega)
  rw[e1,e2] at e
  have e:q1=q2:=e
  exact inj i j hij (by omega) (by rw[e1,e2,e])
 ·intro x hx
  obtain⟨i,hi,rfl⟩:=List.mem_map.mp hx
  rw[List.mem_range] at hi
  obtain⟨q,e,hq⟩:=some_ i (by omega)
  rw[e];exact hq
theorem chs_it{rows:List Rw}{r:Nat}(hr:jmp rows r=none):∀(t p f:Nat),itJ (jmp rows) t p=some r→t<f→chs rows f p=some r
 | 0,p,f+1,h,_=>by cases h;exact chs_stay hr
 | t+1,p,f+1,h,hf=>by
  cases e:jmp rows p with
  | none=>
   have:(itJ (jmp rows) 1 p).isSome=true:=itJ_below (n:=t+1) (m:=1) (by omega) (by rw[h];rfl)
   rw[itJ_up (show itJ (jmp rows) 0 p=some p from rfl),e] at this
   cases this
  | some q=>
   rw[chs_jump e]
   rw[itJ_first e] at h
   exact chs_it hr t q f h (by omega)
 | _,_,0,_,h=>by omega
theorem chs_none{rows:List Rw}(ok:RwOk rows){L:Nat→Nat}(ln:Lands rows L){p:Nat}(hp:p<rows.length)(h:chs rows (rows.length+1) p=none):∃q,jmp rows (L p)=some q:=by
 cases e:jmp rows (L p) with
 | some q=>exact⟨q,rfl⟩
 | none=>
  obtain⟨t,ht⟩:=orb_it (ln.orb p hp)
  have:=it_few (N:=rows.length) (fun a b _ hab=>jmp_lt ok hab) hp ht e
  rw[chs_it e t p _ ht (by omega)] at h
  cases h
theorem stp_node(rows:List Rw)(L:Nat→Nat)(p:Nat)(kv:List (Key×D))(r:Rw):stp kv (r.node rows L p)=(stp kv (r.node rows (fun p=>p) p)).map fun s=>(s.1,s.2.1,L s.2.2):=by
 cases r with
 | sum k x a sg b=>
  show stp kv (.sum x a sg b (L (p+1)))=(stp kv (.sum x a sg b (p+1))).map _
  rw[stp_sum,stp_sum,Option.map_map]
  rfl
 | test k a sg b g=>
  show some _=some _
  dsimp only[Option.some.injEq]
  split<;>rfl
 | jump k g=>rfl
 | fin k=>rfl
theorem law_spin{rows:List Rw}(ok:RwOk rows){L:Nat→Nat}(ln:Lands rows L){p:Nat}(hp:p<rows.length)(e:chs rows (rows.length+1) p=none){k:Nat}{kv:List (Key×D)}:runN (nodesOf rows L) k (L p) kv=([],("on":Str),kv):=by
 obtain⟨q,hq⟩:=chs_none ok ln hp e
 obtain⟨r,hr⟩:∃r,rows[L p]?=some r:=⟨_,List.getElem?_eq_getElem (ln.lt p hp)⟩
 have hn:=nodesOf_get (L:=L) hr
 have:r.node rows L (L p)= .spin:=by
  unfold jmp at hq
  rw[hr] at hq
  cases r with
  | jump _ _=>rfl
  | _=>cases hq
 rw[this] at hn
 rw[runN_end hn (.inl rfl)]
 rfl
theorem goes_node(rows:List Rw)(L L':Nat→Nat)(p:Nat)(r:Rw):(r.node rows L p).goes=(r.node rows L' p).goes∧wrd (some (r.node rows L p))=wrd (some (r.node rows L' p)):=by cases r<;>exact⟨rfl,rfl⟩
theorem stp_lt{rows:List Rw}(ok:RwOk rows){p:Nat}{r:Rw}(hr:rows[p]?=some r){kv:List (Key×D)}{s:D×List (Key×D)×Nat}(e:stp kv (r.node rows (fun p=>p) p)=some s):s.2.2<rows.length:=by
 cases r with
 | sum k x a sg b=>
  have e:stp kv (.sum x a sg b (p+1))=some s:=e
  rw[stp_sum,Option.map_eq_some_iff] at e
  obtain⟨w,_,rfl⟩:=e
  exact ok.last _ _ hr rfl
 | test k a sg b g=>
  cases e
  dsimp only
  split
  ·exact pos_lt (ok.goal _ (List.mem_of_getElem? hr) g rfl)
  ·exact ok.last _ _ hr rfl
 | jump k g=>cases e
 | fin k=>cases e
theorem law_is{rows:List Rw}(ok:RwOk rows){L:Nat→Nat}(ln:Lands rows L):∀(k p:Nat) (kv:List (Key×D)),p<rows.length→lawC rows k (chs rows (rows.length+1) p) kv=runN (nodesOf rows L) k (L p) kv:=by
 intro k
 induction k with
 | zero=>
  intro p kv hp
  cases e:chs rows (rows.length+1) p with
  | none=>
   rw[lawC_none,law_spin ok ln hp e]
  | some q=>
   obtain⟨a,b,c⟩:=chs_some ok ln _ _ _ hp e
   obtain⟨r,hr⟩:∃r,rows[q]?=some r:=⟨_,List.getElem?_eq_getElem c⟩
   rw[a,lawC_end (nodesOf_get hr) (.inr rfl),runN_end (nodesOf_get hr) (.inr rfl),(goes_node rows _ L q r).2]
 | succ k ih=>
  intro p kv hp
  cases e:chs rows (rows.length+1) p with
  | none=>
   rw[lawC_none,law_spin ok ln hp e]
  | some q=>
   obtain⟨a,b,c⟩:=chs_some ok ln _ _ _ hp e
   obtain⟨r,hr⟩:∃r,rows[q]?=some r:=⟨_,List.getElem?_eq_getElem c⟩
   rw[a]
   have hg:=goes_node rows (fun p=>p) L q r
   cases es:stp kv (r.node rows (fun p=>p) q) with
   | none=>
    have eL:stp kv (r.node rows L q)=none:=by rw[stp_node,es];rfl
    cases g:(r.node rows (fun p=>p) q).goes with
    | true=>rw[lawC_bad (nodesOf_get hr) g es,runN_bad (nodesOf_get hr) (hg.1 ▸ g) eL]
    | false=>rw[lawC_end (nodesOf_get hr) (.inl g),runN_end (nodesOf_get hr) (.inl (hg.1 ▸ g)),hg.2]
   | some s=>
    have eL:stp kv (r.node rows L q)=some (s.1,s.2.1,L s.2.2):=by rw[stp_node,es];rfl
    rw[lawC_stp (nodesOf_get hr) es,runN_stp (nodesOf_get hr) eL,ih s.2.2 s.2.1 (stp_lt ok hr es)]
def rn(r:Rw):Nd:=r.node [] (fun _=>0) 0
def RB(r:Rw):Prop:=NB (rn r)
def lawR(rows:List Rw)(most:Nat)(kvs:List (Key×D)):List D×Str×List (Key×D):=lawC rows most (chs rows (rows.length+1) 0) kvs
theorem nodes_ok{rows:List Rw}(ok:RwOk rows)(rb:∀r∈rows,RB r){L:Nat→Nat}(ln:Lands rows L):NdsOk (nodesOf rows L):=by
 intro n hn
 obtain⟨p,hp,e⟩:=List.mem_iff_getElem.mp hn
 rw[nodesOf_len] at hp
 obtain⟨r,hr⟩:∃r,rows[p]?=some r:=⟨_,List.getElem?_eq_getElem hp⟩
 have h2:=nodesOf_get (L:=L) hr
 rw[List.getElem?_eq_getElem (by rw[nodesOf_len];exact hp),e] at h2
 cases h2
 have hb:=rb r (List.mem_of_getElem? hr)
 rw[nodesOf_len]
 cases r with
 | sum k x a sg b=>exact⟨hb,fun t ht=>by cases List.mem_singleton.mp ht;exact ln.lt _ (ok.last _ _ hr rfl)⟩
 | test k a sg b g=>
  refine⟨hb,fun t ht=>?_⟩
  rcases List.mem_cons.mp ht with rfl | ht
  ·exact ln.lt _ (ok.last _ _ hr rfl)
  ·cases List.mem_singleton.mp ht;exact ln.lt _ (pos_lt (ok.goal _ (List.mem_of_getElem? hr) g rfl))
 | jump k g=>exact⟨trivial,fun t ht=>by cases ht⟩
 | fin k=>exact⟨trivial,fun t ht=>by cases ht⟩
def spRun:DSp:=fun ds M Q _=>∃(a mm most:Nat) (rows:List Rw) (kvs:List (Key×D)),ds=[.ref a,.ref mm,.int (most:Nat)]∧readL M a=some (rows.map Rw.d)∧RwOk rows∧(∀r∈rows,RB r)∧readD M mm=some kvs∧MI 64 kvs∧kvs.length≤50∧most≤1000∧
 ∀M' r h,Kp M M'→readW M' r=some (lawR rows most kvs).1→readD M' h=some (lawR rows most kvs).2.2→M.length≤r→M.length≤h→Q (.tup [.ref r,.str (lawR rows most kvs).2.1,.ref h]) M'
def spLsum:DSp:=fun ds M Q _=>∃(sg:Str) (a b v:Int),ds=[.str sg,.int a,.int b]∧b.natAbs.log2<9000∧mkS sg a b=some v∧Q (.int v) M
def spLdeed:DSp:=fun ds M Q _=>∃(r:Rw) (h n:Nat) (kvs:List (Key×D)),ds=[r.d,.ref h]∧readD M h=some kvs∧Fine n kvs∧RB r∧r.goes=true∧∀M',Kp M M'→Q (((stp kvs (rn r)).map (·.1)).getD .non) M'
section
variable{K:PySem.W.Frag}
theorem r_run{Γ G}(g9:Γ[9]?=some spRunFrom)(g11:Γ[11]?=some spLinked):∀ds M Q Z,spRun ds M Q Z→tss ⟨K,Γ,G⟩ noX b_run {nx:=fun _ M=>Q .non M,rt:=Q} (start0 N_run ds) M:=by
 rintro ds M Q Z ⟨a,mm,most,rows,kvs,rfl,ha,ok,rb,hd,mi,kl,hm,q⟩
 simp only[b_run,N_run]
 walk_at "ev"
 refine⟨a,rows,rfl,ha,ok,fun L M1 r ln k1 hw hr=>?_⟩
 walk_at "ev"
 refine⟨r,L 0,mm,most,_,kvs,rfl,readW_readL hw,k1.D hd,nodes_ok ok rb ln,by rw[nodesOf_len];exact ln.lt _ ok.pos,mi,kl,hm,?_⟩
 have e:runN (nodesOf rows L) most (L 0) kvs=lawR rows most kvs:=(law_is ok ln most 0 kvs ok.pos).symm
 rw[e]
 obtain⟨X,rfl⟩:=k1
 refine q _ _ _ ((Kp.new _ _).app _) (by rw[readW_endk];rfl) (readD_end _ _ _) ?_ ?_
 ·rw[List.length_append];omega
 ·rw[List.length_append];omega
theorem r_Lworth{Γ G}:∀ds M Q Z,spWorth ds M Q Z→tss ⟨K,Γ,G⟩ noX b_Lworth {nx:=fun _ M=>Q .non M,rt:=Q} (start0 N_Lworth ds) M:=by
 rintro ds M Q Z ⟨o,h,n,kvs,rfl,hd,hm,q⟩
 simp only[b_Lworth,N_Lworth]
 cases o with
 | no i=>
  simp only[Opd.d]
  walk_at "ev"
  simp only[b_Lworth_1]
  walk_at "ev"
  exact q
 | nm x=>
  simp only[Opd.d]
  walk_at "ev"
  refine⟨by rw[hd];rfl,kvs,_,hd,rfl,?_⟩
  rw[hm.get]
  exact q
theorem r_Lsum{Γ G}:∀ds M Q Z,spLsum ds M Q Z→tss ⟨K,Γ,G⟩ noX b_Lsum {nx:=fun _ M=>Q .non M,rt:=Q} (start0 N_Lsum ds) M:=by
 rintro ds M Q Z ⟨sg,a,b,v,rfl,hb,e,q⟩
 unfold mkS at e
 simp only[b_Lsum,N_Lsum]
 walk_at "ev"
 by_cases h:sg="+"
 ·rw[if_pos h] at e ⊢
  cases e
  try walk_at "ev"
  exact q
 rw[if_neg h] at e ⊢
 simp only[b_Lsum_5]
 walk_at "ev"
 by_cases h:sg="-"
 ·rw[if_pos h] at e ⊢
  cases e
  try walk_at "ev"
  exact q
 rw[if_neg h] at e ⊢
 simp only[b_Lsum_4]
 walk_at "ev"
 by_cases h:sg="/"
 ·rw[if_pos h] at e ⊢
  try walk_at "ev"
  split at e
  ·cases e
  ·rename_i hz;cases e;exact⟨⟨hz,hb⟩,q⟩
 rw[if_neg h] at e ⊢
 simp only[b_Lsum_3]
 walk_at "ev"
 by_cases h:sg="rest"
 ·rw[if_pos h] at e ⊢
  try walk_at "ev"
  split at e
  ·cases e
  ·rename_i hz;cases e;exact⟨hz,q⟩
 rw[if_neg h] at e ⊢
 simp only[b_Lsum_2]
 walk_at "ev"
 by_cases h:sg="&"
 ·rw[if_pos h] at e ⊢
  cases e
  try walk_at "ev"
  exact q
 rw[if_neg h] at e ⊢
 cases e
 simp only[b_Lsum_1]
 walk_at "ev"
 exact q
theorem mk_nought{sg:Str}{a b:Int}:mkS sg a b=none↔b=0∧(sg="/"∨sg="rest"):=by
 unfold mkS
 constructor
 ·intro h
  split at h
  ·cases h
  split at h
  ·cases h
  split at h
  ·rename_i e;split at h
   ·rename_i z;exact⟨z,.inl e⟩
   ·cases h
  split at h
  ·rename_i e;split at h
   ·rename_i z;exact⟨z,.inr e⟩
   ·cases h
  split at h<;>cases h
 ·rintro⟨rfl,rfl | rfl⟩
  ·rw[if_neg (by decide+kernel),if_neg (by decide+kernel),if_pos rfl,if_pos rfl]
  ·rw[if_neg (by decide+kernel),if_neg (by decide+kernel),if_neg (by decide+kernel),if_pos rfl,if_pos rfl]
theorem inD_two(sg:Str):inD (.str sg) [.str "/",.str "rest"]=decide (sg="/"∨sg="rest"):=by
 show((("/":Str)==sg) || ((("rest":Str)==sg) || false))=_
 rw[Bool.or_false,Bool.eq_iff_iff]
 simp only[Bool.or_eq_true,beq_iff_eq,decide_eq_true_eq]
 exact⟨fun h=>h.imp Eq.symm Eq.symm,fun h=>h.imp Eq.symm Eq.symm⟩
theorem r_Ldeed{Γ G}(g23:Γ[23]?=some spWorth)(g24:Γ[24]?=some spLsum):∀ds M Q Z,spLdeed ds M Q Z→tss ⟨K,Γ,G⟩ noX b_Ldeed {nx:=fun _ M=>Q .non M,rt:=Q} (start0 N_Ldeed ds) M:=by
 rintro ds M Q Z ⟨r,h,n,kvs,rfl,hd,fi,rb,go,q⟩
 simp only[b_Ldeed,N_Ldeed]
 cases r with
 | sum k x a sg b=>
  simp only[Rw.d]
  walk_at "ev"
  refine⟨_,rfl,?_⟩
  walk_at "ev"
  rw[if_neg (by decide+kernel)]
  try walk_at "ev"
  simp only[b_Ldeed_2]
  walk_at "ev"
  refine⟨_,rfl,a,h,n,kvs,rfl,hd,fi.mi,?_⟩
  try walk_at "ev"
  refine⟨_,rfl,b,h,n,kvs,rfl,hd,fi.mi,?_⟩
  try walk_at "ev"
  have hbk:=fi.log (o:=b) rb.2
  have fin:∀M',Kp M M'→mkS sg (wI kvs a) (wI kvs b)≠none→tss ⟨K,Γ,G⟩ noX b_Ldeed_1 {nx:=fun x M=>Q D.non M,rt:=Q} [some (D.tup [D.int k,D.str "sum",D.str x,a.d,D.str sg,b.d]),some (D.ref h),some (D.int (wI kvs a)),some (D.int (wI kvs b))] M':=by
   intro M' k1 hne
   obtain⟨v,hv⟩:∃v,mkS sg (wI kvs a) (wI kvs b)=some v:=Option.ne_none_iff_exists'.mp hne
   have q':=q M' k1
   rw[show stp kvs (rn (Rw.sum k x a sg b))=_ from stp_sum kvs x a sg b 0,hv] at q'
   simp only[b_Ldeed_1]
   walk_at "ev"
   refine⟨_,rfl,_,rfl,_,rfl,?_⟩
   try walk_at "ev"
   exact⟨sg,_,_,v,rfl,hbk,hv,sizeLine_ge (by decide),q'⟩
  by_cases hz:wI kvs b=0
  ·rw[if_pos hz]
   refine⟨_,rfl,sizeLine_ge (by decide),.inl ⟨_,readL_end _ _ [],rfl,rfl,?_⟩⟩
   rw[inD_two]
   dsimp only
   by_cases hs:sg="/"∨sg="rest"
   ·rw[if_pos (decide_eq_true hs)]
    have q':=q _ (Kp.new M [Cell.lst [D.str "/",D.str "rest"]])
    rw[show stp kvs (rn (Rw.sum k x a sg b))=_ from stp_sum kvs x a sg b 0,mk_nought.mpr ⟨hz,hs⟩] at q'
    exact q'
   ·rw[if_neg (fun z=>hs (of_decide_eq_true z))]
    exact rest_of (fin _ (Kp.new _ _) fun z=>hs (mk_nought.mp z).2)
  ·rw[if_neg hz,if_neg hz]
   exact rest_of (fin _ (Kp.refl _) fun z=>hz (mk_nought.mp z).1)
 | test k a sg b g=>
  have hsg:=rb.2.2
  simp only[Rw.d]
  walk_at "ev"
  refine⟨_,rfl,?_⟩
  walk_at "ev"
  refine⟨_,rfl,a,h,n,kvs,rfl,hd,fi.mi,?_⟩
  try walk_at "ev"
  refine⟨_,rfl,b,h,n,kvs,rfl,hd,fi.mi,?_⟩
  try walk_at "ev"
  refine⟨_,rfl,_,rfl,?_⟩
  have q':Q (testT (wI kvs a) sg (wI kvs b) (hld sg (wI kvs a) (wI kvs b))) M:=q M (Kp.refl M)
  unfold hld at q'
  rcases hsg with rfl | rfl
  ·rw[if_pos rfl] at q'
   try walk_at "ev"
   by_cases hl:wI kvs a<wI kvs b
   ·rw[if_neg (fun z=>z hl)]
    exact⟨sizeLine_ge (by decide),q'⟩
   ·rw[if_pos hl]
    refine⟨_,rfl,?_⟩
    try walk_at "ev"
    rw[if_neg (by decide+kernel)]
    rw[decide_eq_false hl] at q'
    exact⟨sizeLine_ge (by decide),q'⟩
  ·rw[if_neg (by decide+kernel)] at q'
   try walk_at "ev"
   rw[if_neg (by decide+kernel)]
   try walk_at "ev"
   rw[if_pos (by decide+kernel)]
   refine⟨_,rfl,?_⟩
   try walk_at "ev"
   exact⟨sizeLine_ge (by decide),q'⟩
 | jump k g=>cases go
 | fin k=>cases go
end
theorem foldl_len:∀(ps m:List (Key×D)),(ps.foldl (fun m p=>putD m p.1 p.2) m).length≤m.length+ps.length
 | [],m=>Nat.le_refl _
 | p::r,m=>by
  have h1:=foldl_len r (putD m p.1 p.2)
  have h2:=putD_len1 m p.1 p.2
  show(r.foldl (fun m p=>putD m p.1 p.2) (putD m p.1 p.2)).length≤_
  rw[List.length_cons];omega
theorem foldD_len(ps:List (Key×D)):(foldD ps).length≤ps.length:=by have:=foldl_len ps [];rw[List.length_nil,Nat.zero_add] at this;exact this
theorem stp_rn(rows:List Rw)(p:Nat)(kv:List (Key×D))(r:Rw):(stp kv (rn r)).map (·.1)=(stp kv (r.node rows (fun p=>p) p)).map (·.1):=by
 cases r with
 | sum k x a sg b=>
  show(stp kv (.sum x a sg b 0)).map (·.1)=(stp kv (.sum x a sg b (p+1))).map (·.1)
  rw[stp_sum,stp_sum,Option.map_map,Option.map_map]
  rfl
 | test k a sg b g=>rfl
 | jump k g=>rfl
 | fin k=>rfl
section
variable{K:PySem.W.Frag}
theorem r_Lrun{Γ G}(g25:Γ[25]?=some spLdeed):∀ds M Q Z,spRun ds M Q Z→tss ⟨K,Γ,G⟩ noX b_Lrun {nx:=fun _ M=>Q .non M,rt:=Q} (start0 N_Lrun ds) M:=by
 rintro ds M Q Z ⟨a,mm,most,rows,kvs,rfl,ha,ok,rb,hd,mi0,kl0,hm,q⟩
 have hsm:=ok.small
 simp only[b_Lrun,N_Lrun]
 walk_at "ev"
 refine bf_len_l (readL_app ha) ⟨by omega,by rw[List.length_map];omega,?_⟩
 try walk_at "ev"
 rw[Int.toNat_natCast,List.length_map]
 refine forD_rng (fun i σ M'=>∃d4,σ=[some (.ref a),some (.ref mm),some (.int (most:Nat)),some (.ref M.length),d4,none,none,none,none,none]∧M'=M++[.dct (foldD (numP ((rows.map Rw.num).take i)))]) ⟨none,rfl,rfl⟩ ?_ ?_
 ·rintro i σ M' C hi ⟨d4,rfl,rfl⟩ hC
  obtain⟨r,hr⟩:∃r,rows[i]?=some r:=⟨_,List.getElem?_eq_getElem hi⟩
  have hnum:(rows.map Rw.num)[i]?=some r.num:=by rw[List.getElem?_map,hr];rfl
  simp only[b_Lrun_8,Int.zero_add]
  walk_at "ev"
  refine ix_l (k:=i) (readL_app ha) (by rw[List.getElem?_map,hr];rfl) ?_
  have e0:∀F:D→Prop,F (.int (r.num:Nat))→ixD (M++[.dct (foldD (numP ((rows.map Rw.num).take i)))]) r.d (.int 0) F:=fun F f=>by cases r<;>exact⟨_,rfl,f⟩
  refine e0 _ (.inr ⟨_,_,readD_end _ _ _,rfl,?_,?_⟩)
  ·have:=foldD_len (numP ((rows.map Rw.num).take i))
   rw[numP_len,List.length_take] at this
   exact sizeLine_gt (by omega)
  ·rw[set_end]
   refine hC _ _ ⟨_,rfl,?_⟩
   rw[take_snoc hnum,numP_snoc,foldD_snoc,List.length_take,List.length_map,Nat.min_eq_left (by omega)]
 rintro σ M' ⟨d4,rfl,rfl⟩
 rw[←List.length_map (f:=Rw.num) (as:=rows),List.take_length]
 simp only[b_Lrun_7]
 walk_at "ev"
 refine .inl ⟨kvs,readD_app hd,?_⟩
 walk_at "ev"
 refine⟨sizeLine_ge (by decide),?_⟩
 try walk_at "ev"
 have hPL:∀g∈rows.map Rw.num,valD (foldD (numP (rows.map Rw.num))) (Sum.inl (g:Int))=some (.int (posOf rows g:Nat)):=fun g hg=>val_num _ _ rfl ok.nd g hg
 generalize foldD (numP (rows.map Rw.num))=PL at hPL ⊢
 rw[show(M++[Cell.dct PL]:Store).length=M.length+1 by simp,show(M++[Cell.dct PL]++[Cell.dct kvs]:Store).length=M.length+2 by simp,show(M++[Cell.dct PL]++[Cell.dct kvs]++[Cell.lst []]:Store)=M++[.dct PL,.dct kvs,.lst []] by simp]
 have rA:∀kv dsd N,readL (M++ .dct PL:: .dct kv:: .lst dsd::N) a=some (rows.map Rw.d):=fun kv dsd N=>readL_app ha
 have rP:∀kv dsd N,readD (M++ .dct PL:: .dct kv:: .lst dsd::N) M.length=some PL:=fun kv dsd N=>readD_end _ _ _
 have rK:∀kv dsd N,readD (M++ .dct PL:: .dct kv:: .lst dsd::N) (M.length+1)=some kv:=fun kv dsd N=>by rw[readD_endk];rfl
 have rD:∀kv dsd N,readW (M++ .dct PL:: .dct kv:: .lst dsd::N) (M.length+2)=some dsd:=fun kv dsd N=>by rw[readW_endk];rfl
 have sK:∀kv dsd N c,(M++ .dct PL:: .dct kv:: .lst dsd::N:Store).set (M.length+1) c=M++ .dct PL::c:: .lst dsd::N:=fun kv dsd N c=>by rw[set_endk];rfl
 have sD:∀kv dsd N c,(M++ .dct PL:: .dct kv:: .lst dsd::N:Store).set (M.length+2) c=M++ .dct PL:: .dct kv::c::N:=fun kv dsd N c=>by rw[set_endk];rfl
 refine⟨fun m σ M'=>∃(p idle k:Nat) (kv:List (Key×D)) (dsd:List D) (d4 d8 d9:Option D) (N:Store),σ=[some (.ref a),some (.ref (M.length+1)),some (.int (most:Nat)),some (.ref M.length),d4,some (.ref (M.length+2)),some (.int (p:Nat)),some (.int (idle:Nat)),d8,d9]∧M'=M++ .dct PL:: .dct kv:: .lst dsd::N∧dsd.length+k=most∧p<rows.length∧idle≤rows.length+1∧MI (64+dsd.length) kv∧kv.length≤50+dsd.length∧(dsd++(lawC rows k (chs rows (rows.length+1 - idle) p) kv).1,(lawC rows k (chs rows (rows.length+1 - idle) p) kv).2)=lawR rows most kvs∧m=k * (rows.length+3)+(rows.length+2 - idle),
  ⟨_,0,0,most,kvs,[],d4,none,none,[],rfl,rfl,Nat.zero_add _,ok.pos,by omega,mi0,kl0,rfl,rfl⟩,?_⟩
 rintro m σ M' ⟨p,idle,k,kv,dsd,d4,d8,d9,N,rfl,rfl,hk,hp,hi,mi,kl,inv,rfl⟩
 have ret:∀(w:Str) (N:Store),lawC rows k (chs rows (rows.length+1 - idle) p) kv=([],w,kv)→Q (.tup [.ref (M.length+2),.str w,.ref (M.length+1)]) (M++ .dct PL:: .dct kv:: .lst dsd::N):=by
  intro w N e
  rw[e,List.append_nil] at inv
  have q':=q (M++ .dct PL:: .dct kv:: .lst dsd::N) (M.length+2) (M.length+1) (Kp.new _ _)
  rw[←inv] at q'
  exact q' (rD _ _ _) (rK _ _ _) (by omega) (by omega)
 walk_at "ev"
 refine bf_len_l (rA _ _ _) ?_
 rw[List.length_map]
 walk_at "ev"
 by_cases hid:idle≤rows.length
 rotate_left
 ·rw[if_neg (by omega)]
  refine rest_of ?_
  simp only[b_Lrun_1]
  walk_at "ev"
  refine⟨sizeLine_ge (by decide),ret _ _ ?_⟩
  rw[show rows.length+1 - idle=0 by omega]
  exact lawC_none _ _ _
 rw[if_pos (by omega)]
 obtain⟨r,hr⟩:∃r,rows[p]?=some r:=⟨_,List.getElem?_eq_getElem hp⟩
 have hrd:(rows.map Rw.d)[p]?=some r.d:=by rw[List.getElem?_map,hr];rfl
 have hrb:=rb r (List.mem_of_getElem? hr)
 have hf:rows.length+1 - idle=(rows.length - idle)+1:=by omega
 simp only[b_Lrun_6]
 walk_at "ev"
 refine ix_l (rA _ _ _) hrd ?_
 try walk_at "ev"
 cases r with
 | fin kk=>
  simp only[Rw.d]
  try walk_at "ev"
  refine⟨_,rfl,?_⟩
  try walk_at "ev"
  refine⟨sizeLine_ge (by decide),ret _ _ ?_⟩
  rw[hf,chs_stay (show jmp rows p=none by unfold jmp;rw[hr])]
  exact lawC_end (nodesOf_get hr) (.inl rfl)
 | jump kk g=>
  have hg:=ok.goal _ (List.mem_of_getElem? hr) g rfl
  simp only[Rw.d]
  try walk_at "ev"
  refine⟨_,rfl,?_⟩
  try walk_at "ev"
  rw[if_neg (by decide+kernel)]
  try walk_at "ev"
  simp only[b_Lrun_5]
  walk_at "ev"
  refine⟨_,rfl,?_⟩
  try walk_at "ev"
  refine⟨_,rfl,ix_d (rP _ _ _) rfl (hPL g hg) ?_⟩
  try walk_at "ev"
  have hj:jmp rows p=some (posOf rows g):=by unfold jmp;rw[hr]
  rw[hf,chs_jump hj] at inv
  refine⟨_,?_,posOf rows g,idle+1,k,kv,dsd,_,_,_,N,rfl,rfl,hk,pos_lt hg,by omega,mi,kl,?_,rfl⟩
  ·omega
  ·rw[show rows.length+1 - (idle+1)=rows.length - idle by omega]
   exact inv
 | sum kk x o1 sg o2=>
  have hj:jmp rows p=none:=by unfold jmp;rw[hr]
  rw[hf,chs_stay hj] at inv ret
  have hn0:(nds0 rows)[p]?=some _:=nodesOf_get hr
  simp only[Rw.d]
  try walk_at "ev"
  refine⟨_,rfl,?_⟩
  try walk_at "ev"
  rw[if_neg (by decide+kernel)]
  try walk_at "ev"
  simp only[b_Lrun_5]
  walk_at "ev"
  refine⟨_,rfl,?_⟩
  try walk_at "ev"
  rw[if_neg (by decide+kernel)]
  try walk_at "ev"
  simp only[b_Lrun_4]
  walk_at "ev"
  refine bf_len_l (readW_readL (rD _ _ _)) ?_
  try walk_at "ev"
  by_cases hk0:k=0
  ·rw[if_pos (by omega)]
   exact⟨sizeLine_ge (by decide),ret _ _ (lawC_end hn0 (.inr hk0))⟩
  rw[if_neg (by omega)]
  obtain⟨k,rfl⟩:∃k',k=k'+1:=⟨k - 1,by omega⟩
  refine rest_of ?_
  simp only[b_Lrun_3]
  walk_at "ev"
  refine⟨.sum kk x o1 sg o2,M.length+1,64+dsd.length,kv,rfl,rK _ _ _,⟨mi,by omega,by omega⟩,hrb,rfl,fun M2 k2=>?_⟩
  obtain⟨X,rfl⟩:=k2
  rw[stp_rn rows p,List.append_assoc]
  simp only[List.cons_append]
  cases e:stp kv (Rw.node rows (fun p=>p) p (.sum kk x o1 sg o2)) with
  | none=>
   try walk_at "ev"
   exact⟨sizeLine_ge (by decide),ret _ _ (lawC_bad hn0 rfl e)⟩
  | some s=>
   obtain⟨mi',len',gs'⟩:=stp_keeps (n:=64+dsd.length) mi (by omega) (show NB (Rw.node rows (fun p=>p) p (.sum kk x o1 sg o2)) from hrb) e
   rw[lawC_stp hn0 e] at inv
   have hs:=stp_lt ok hr e
   have fin:∀(d4 d8 d9:Option D),∃m',m'< (k+1) * (rows.length+3)+(rows.length+2 - idle)∧∃(p idle k:Nat) (kv:List (Key×D)) (dsd':List D) (e4 e8 e9:Option D) (N':Store),[some (.ref a),some (.ref (M.length+1)),some (.int (most:Nat)),some (.ref M.length),d4,some (.ref (M.length+2)),some (.int (s.2.2:Nat)),some (.int 0),d8,d9]=[some (.ref a),some (.ref (M.length+1)),some (.int (most:Nat)),some (.ref M.length),e4,some (.ref (M.length+2)),some (.int (p:Nat)),some (.int (idle:Nat)),e8,e9]∧(M++ .dct PL:: .dct s.2.1:: .lst (dsd++[s.1])::(N++X):Store)=M++ .dct PL:: .dct kv:: .lst dsd'::N'∧dsd'.length+k=most∧p<rows.length∧idle≤rows.length+1∧MI (64+dsd'.length) kv∧kv.length≤50+dsd'.length∧(dsd'++(lawC rows k (chs rows (rows.length+1 - idle) p) kv).1,(lawC rows k (chs rows (rows.length+1 - idle) p) kv).2)=lawR rows most kvs∧m'=k * (rows.length+3)+(rows.length+2 - idle):=by
    intro d4 d8 d9
    refine⟨_,?_,s.2.2,0,k,s.2.1,dsd++[s.1],d4,d8,d9,N++X,rfl,rfl,by rw[List.length_append,List.length_singleton];omega,hs,by omega,by rw[List.length_append,List.length_singleton];exact mi',by rw[List.length_append,List.length_singleton];omega,?_,rfl⟩
    ·rw[Nat.add_mul];omega
    ·rw[←inv,List.append_assoc];rfl
   have e:stp kv (.sum x o1 sg o2 (p+1))=some s:=e
   rw[stp_sum,Option.map_eq_some_iff] at e
   obtain⟨w,e,rfl⟩:=e
   simp only[Option.map_some,Option.getD_some,sumT]
   try walk_at "ev"
   simp only[b_Lrun_2]
   walk_at "ev"
   refine⟨isSome_of (readW_readL (rD _ _ _)),_,rD _ _ _,sizeLine_gt (by omega),?_⟩
   rw[sD]
   try walk_at "ev"
   refine⟨_,rfl,?_⟩
   try walk_at "ev"
   refine⟨_,rfl,_,rfl,.inr ⟨kv,_,rK _ _ _,rfl,sizeLine_gt (by omega),?_⟩⟩
   rw[sK]
   try walk_at "ev"
   exact fin _ _ _
 | test kk o1 sg o2 g=>
  have hj:jmp rows p=none:=by unfold jmp;rw[hr]
  rw[hf,chs_stay hj] at inv ret
  have hn0:(nds0 rows)[p]?=some _:=nodesOf_get hr
  simp only[Rw.d]
  try walk_at "ev"
  refine⟨_,rfl,?_⟩
  try walk_at "ev"
  rw[if_neg (by decide+kernel)]
  try walk_at "ev"
  simp only[b_Lrun_5]
  walk_at "ev"
  refine⟨_,rfl,?_⟩
  try walk_at "ev"
  rw[if_neg (by decide+kernel)]
  try walk_at "ev"
  simp only[b_Lrun_4]
  walk_at "ev"
  refine bf_len_l (readW_readL (rD _ _ _)) ?_
  try walk_at "ev"
  by_cases hk0:k=0
  ·rw[if_pos (by omega)]
   exact⟨sizeLine_ge (by decide),ret _ _ (lawC_end hn0 (.inr hk0))⟩
  rw[if_neg (by omega)]
  obtain⟨k,rfl⟩:∃k',k=k'+1:=⟨k - 1,by omega⟩
  refine rest_of ?_
  simp only[b_Lrun_3]
  walk_at "ev"
  refine⟨.test kk o1 sg o2 g,M.length+1,64+dsd.length,kv,rfl,rK _ _ _,⟨mi,by omega,by omega⟩,hrb,rfl,fun M2 k2=>?_⟩
  obtain⟨X,rfl⟩:=k2
  rw[stp_rn rows p,List.append_assoc]
  simp only[List.cons_append]
  cases e:stp kv (Rw.node rows (fun p=>p) p (.test kk o1 sg o2 g)) with
  | none=>
   try walk_at "ev"
   exact⟨sizeLine_ge (by decide),ret _ _ (lawC_bad hn0 rfl e)⟩
  | some s=>
   obtain⟨mi',len',gs'⟩:=stp_keeps (n:=64+dsd.length) mi (by omega) (show NB (Rw.node rows (fun p=>p) p (.test kk o1 sg o2 g)) from hrb) e
   rw[lawC_stp hn0 e] at inv
   have hs:=stp_lt ok hr e
   have fin:∀(d4 d8 d9:Option D),∃m',m'< (k+1) * (rows.length+3)+(rows.length+2 - idle)∧∃(p idle k:Nat) (kv:List (Key×D)) (dsd':List D) (e4 e8 e9:Option D) (N':Store),[some (.ref a),some (.ref (M.length+1)),some (.int (most:Nat)),some (.ref M.length),d4,some (.ref (M.length+2)),some (.int (s.2.2:Nat)),some (.int 0),d8,d9]=[some (.ref a),some (.ref (M.length+1)),some (.int (most:Nat)),some (.ref M.length),e4,some (.ref (M.length+2)),some (.int (p:Nat)),some (.int (idle:Nat)),e8,e9]∧(M++ .dct PL:: .dct s.2.1:: .lst (dsd++[s.1])::(N++X):Store)=M++ .dct PL:: .dct kv:: .lst dsd'::N'∧dsd'.length+k=most∧p<rows.length∧idle≤rows.length+1∧MI (64+dsd'.length) kv∧kv.length≤50+dsd'.length∧(dsd'++(lawC rows k (chs rows (rows.length+1 - idle) p) kv).1,(lawC rows k (chs rows (rows.length+1 - idle) p) kv).2)=lawR rows most kvs∧m'=k * (rows.length+3)+(rows.length+2 - idle):=by
    intro d4 d8 d9
    refine⟨_,?_,s.2.2,0,k,s.2.1,dsd++[s.1],d4,d8,d9,N++X,rfl,rfl,by rw[List.length_append,List.length_singleton];omega,hs,by omega,by rw[List.length_append,List.length_singleton];exact mi',by rw[List.length_append,List.length_singleton];omega,?_,rfl⟩
    ·rw[Nat.add_mul];omega
    ·rw[←inv,List.append_assoc];rfl
   have e:some _=some s:=e
   cases e
   simp only[Option.map_some,Option.getD_some,testT]
   try walk_at "ev"
   simp only[b_Lrun_2]
   walk_at "ev"
   refine⟨isSome_of (readW_readL (rD _ _ _)),_,rD _ _ _,sizeLine_gt (by omega),?_⟩
   rw[sD]
   try walk_at "ev"
   refine⟨_,rfl,?_⟩
   try walk_at "ev"
   rw[if_neg (by decide+kernel)]
   try walk_at "ev"
   refine⟨_,rfl,?_⟩
   try walk_at "ev"
   have hg:=ok.goal _ (List.mem_of_getElem? hr) g rfl
   by_cases hb:hld sg (wI kv o1) (wI kv o2)=true
   ·simp only[if_pos hb] at fin
    rw[if_pos hb]
    refine⟨_,rfl,ix_d (rP _ _ _) rfl (hPL g hg) ?_⟩
    try walk_at "ev"
    exact fin _ _ _
   ·simp only[if_neg hb] at fin
    rw[if_neg hb]
    try walk_at "ev"
    exact fin _ _ _
end
def KI(kvs:List (Key×D)):Prop:=∀k v,(k,v)∈kvs→valD kvs k=some v∧∃i:Int,v= .int i
theorem putD_mem{m:List (Key×D)}{x k:Key}{w v:D}(h:(k,v)∈putD m x w):(k=x∧v=w)∨(k≠x∧(k,v)∈m):=by
 unfold putD at h
 split at h
 ·obtain⟨⟨a,b⟩,h1,h2⟩:=List.mem_map.mp h
  dsimp only at h2
  split at h2
  ·rename_i e;cases h2;exact .inl ⟨e,rfl⟩
  ·rename_i e;cases h2;exact .inr ⟨e,h1⟩
 ·rename_i hn
  rcases List.mem_append.mp h with h | h
  ·refine .inr ⟨fun e=>hn ?_,h⟩
   rw[List.any_eq_true]
   exact⟨_,h,by simp[e]⟩
  ·cases List.mem_singleton.mp h;exact .inl ⟨rfl,rfl⟩
theorem KI.put{m:List (Key×D)}(h:KI m)(x:Key)(i:Int):KI (putD m x (.int i)):=by
 intro k v e
 rw[valD_put]
 rcases putD_mem e with⟨rfl,rfl⟩ | ⟨hne,e⟩
 ·rw[if_pos rfl];exact⟨rfl,i,rfl⟩
 ·rw[if_neg (Ne.symm hne)];exact h k v e
def Dd(d:D):Prop:=∃l:List D,d= .tup l∧l.length≤6∧l.all flatE=true
theorem stp_facts{kv:List (Key×D)}{n:Nd}{s:D×List (Key×D)×Nat}(h:KI kv)(e:stp kv n=some s):KI s.2.1∧s.2.1.length≤kv.length+1∧Dd s.1:=by
 cases n with
 | sum x a sg b t=>
  rw[stp_sum,Option.map_eq_some_iff] at e
  obtain⟨w,_,rfl⟩:=e
  exact⟨h.put _ _,putD_len1 _ _ _,_,rfl,by simp,rfl⟩
 | test a sg b y z=>cases e;exact⟨h,Nat.le_succ _,_,rfl,by simp,rfl⟩
 | fin=>cases e
 | spin=>cases e
structure Tl(R:List D×Str×List (Key×D))(l k:Nat):Prop where
 ki:KI R.2.2
 len:R.2.2.length≤l+k
 few:R.1.length≤k
 dd:∀d∈R.1,Dd d
theorem runG_facts(nds:List Nd)(f:Nat→Option Nat):∀(k:Nat) (c:Option Nat) (kv:List (Key×D)),KI kv→Tl (runG nds f k c kv) kv.length k:=by
 intro k
 have no:∀(w:Str) (k:Nat) (kv:List (Key×D)),KI kv→Tl ([],w,kv) kv.length k:=fun w k kv h=>⟨h,Nat.le_add_right _ _,Nat.zero_le _,fun d hd=>by cases hd⟩
 induction k with
 | zero=>
  intro c kv h
  cases c with
  | none=>exact no _ _ _ h
  | some p=>exact no _ _ _ h
 | succ k ih=>
  intro c kv h
  cases c with
  | none=>exact no _ _ _ h
  | some p=>
   show Tl (match nds[p]? with | some n=>(match stp kv n with | some s=>(s.1::(runG nds f k (f s.2.2) s.2.1).1,(runG nds f k (f s.2.2) s.2.1).2) | none=>([],if n.goes=true then "fault" else wrd (some n),kv)) | none=>([],"on",kv)) _ _
   cases nds[p]? with
   | none=>exact no _ _ _ h
   | some n=>
    dsimp only
    cases e:stp kv n with
    | none=>exact no _ _ _ h
    | some s=>
     obtain⟨h1,h2,h3⟩:=stp_facts h e
     obtain⟨a,b,c,d⟩:=ih (f s.2.2) s.2.1 h1
     exact⟨a,by dsimp only;omega,by dsimp only;rw[List.length_cons];omega,fun x hx=>by
      rcases List.mem_cons.mp hx with rfl | hx
      ·exact h3
      ·exact d x hx⟩
theorem lawR_facts(rows:List Rw)(most:Nat){kv:List (Key×D)}(h:KI kv):Tl (lawR rows most kv) kv.length most:=runG_facts _ _ _ _ _ h
def spSame:DSp:=fun ds M Q _=>∃(a b:Nat) (kvs:List (Key×D)),ds=[.ref a,.ref b]∧readD M a=some kvs∧readD M b=some kvs∧a≠b∧KI kvs∧Q (.bl true) M
theorem AL.dd{M:Store}{d:D}(h:Dd d):AL M 1 d d:=by
 obtain⟨l,rfl,hl,hf⟩:=h
 refine .inr (.inl ⟨l,l,rfl,rfl,rfl,by omega,fun i a b h1 h2=>?_⟩)
 rw[h1] at h2
 cases h2
 exact⟨rfl,List.all_eq_true.mp hf _ (List.mem_of_getElem? h1)⟩
theorem AL.dds{M:Store}{r s:Nat}{l:List D}(h1:readW M r=some l)(h2:readW M s=some l)(hl:l.length≤100000)(h:∀d∈l,Dd d):AL M 2 (.ref r) (.ref s):=
 .inr (.inr ⟨r,s,l,l,rfl,rfl,h1,h2,rfl,hl,fun i a b e1 e2=>by rw[e1] at e2;cases e2;exact AL.dd (h _ (List.mem_of_getElem? e1))⟩)
def spFits:DSp:=fun ds M Q _=>∃(r s g h:Nat) (l:List D) (w:Str) (kvs:List (Key×D)),ds=[.tup [.ref r,.str w,.ref g],.tup [.ref s,.str w,.ref h]]∧readW M r=some l∧readW M s=some l∧l.length≤100000∧(∀d∈l,Dd d)∧readD M g=some kvs∧readD M h=some kvs∧g≠h∧KI kvs∧Q (.bl true) M
section
variable{K:PySem.W.Frag}
theorem r_Lsame{Γ G}(g15:Γ[21]?=some (spAlike 2)):∀ds M Q Z,spSame ds M Q Z→tss ⟨K,Γ,G⟩ noX b_Lsame_memory {nx:=fun _ M=>Q .non M,rt:=Q} (start0 N_Lsame_memory ds) M:=by
 rintro ds M Q Z ⟨a,b,kvs,rfl,ha,hb,hab,hv,q⟩
 have i1:∀{t:Ty} {B:Bool→Prop},isD K M (.ref a) (.ty (tyName t)) B=B (tyDct t):=fun{t B}=>is_dct ha
 simp only[b_Lsame_memory,N_Lsame_memory]
 walk_at "ev"
 simp only[i1]
 walk_at "ev"
 refine .inr ⟨kvs,ha,.inr ⟨kvs,hb,?_⟩⟩
 walk_at "ev"
 rw[if_neg (by simp)]
 try walk_at "ev"
 simp only[b_Lsame_memory_3]
 walk_at "ev"
 refine⟨kvs,hb,?_⟩
 have hbM:=readD_at hb
 have hbl:b<M.length:=readD_lt hb
 have fz:(M.set b (.fdc kvs))[b]?=some (.fdc kvs):=by rw[List.getElem?_set_self hbl]
 have ra:readD (M.set b (.fdc kvs)) a=some kvs:=by rw[readD_set_ne (Ne.symm hab)];exact ha
 have back:(M.set b (.fdc kvs)).set b (.dct kvs)=M:=by
  rw[List.set_set]
  apply List.ext_getElem?
  intro i
  by_cases e:b=i
  ·subst e;rw[List.getElem?_set_self hbl,hbM]
  ·rw[List.getElem?_set_ne e]
 refine forD_by (fun i σ M'=>∃d2,σ=[some (.ref a),some (.ref b),d2]∧M'=M.set b (.fdc kvs)) ⟨none,rfl,rfl⟩ ?_ ?_ ?_
 ·rintro i σ M' _ ⟨d2,rfl,rfl⟩
  exact⟨kvs,fz,rfl⟩
 ·rintro i dx σ M' C hx ⟨d2,rfl,rfl⟩ hC
  unfold keysD at hx
  rw[List.getElem?_map,Option.map_eq_some_iff] at hx
  obtain⟨⟨k,v⟩,hk,rfl⟩:=hx
  obtain⟨e1,j,rfl⟩:=hv k v (List.mem_of_getElem? hk)
  have kd:keyD (kD k)=some k:=by cases k<;>rfl
  simp only[b_Lsame_memory_2]
  walk_at "ev"
  have hin:∀F:Bool→Prop,F true→inQ (M.set b (.fdc kvs)) (kD k) (.ref a) F:=by
   intro F hF
   have:inQ (M.set b (.fdc kvs)) (kD k) (.ref a) F=((∃xs,readL (M.set b (.fdc kvs)) a=some xs∧flatD (kD k)=true∧xs.all flatD=true∧F (inD (kD k) xs))∨(∃kvs' k',readD (M.set b (.fdc kvs)) a=some kvs'∧keyD (kD k)=some k'∧F (valD kvs' k').isSome)):=by cases k<;>rfl
   rw[this]
   exact .inr ⟨kvs,k,ra,kd,by rw[e1];exact hF⟩
  refine hin _ ?_
  try walk_at "ev"
  refine ix_d ra kd e1 (ix_f fz kd e1 ?_)
  try walk_at "ev"
  refine⟨_,_,rfl,AL.flat rfl,?_⟩
  try walk_at "ev"
  exact hC _ _ ⟨_,rfl,rfl⟩
 ·rintro σ M' ⟨d2,rfl,rfl⟩
  refine⟨kvs,fz,?_⟩
  rw[back]
  simp only[b_Lsame_memory_1]
  walk_at "ev"
  exact q
theorem r_Lfits{Γ G}(g21:Γ[21]?=some (spAlike 2))(g22:Γ[22]?=some spSame):∀ds M Q Z,spFits ds M Q Z→tss ⟨K,Γ,G⟩ noX b_Lfits {nx:=fun _ M=>Q .non M,rt:=Q} (start0 N_Lfits ds) M:=by
 rintro ds M Q Z ⟨r,s,g,h,l,w,kvs,rfl,hr,hs,hl,hd,hg,hh,hne,ki,q⟩
 simp only[b_Lfits,N_Lfits]
 walk_at "ev"
 simp only[b_Lfits_2]
 walk_at "ev"
 refine⟨_,rfl,_,rfl,?_⟩
 try walk_at "ev"
 refine⟨_,_,rfl,AL.dds hr hs hl hd,?_⟩
 try walk_at "ev"
 refine⟨_,rfl,_,rfl,?_⟩
 try walk_at "ev"
 refine⟨_,_,rfl,AL.flat rfl,?_⟩
 try walk_at "ev"
 simp only[b_Lfits_1]
 walk_at "ev"
 refine⟨_,rfl,_,rfl,?_⟩
 try walk_at "ev"
 exact⟨g,h,kvs,rfl,hg,hh,hne,ki,q⟩
end
def spNames:DSp:=fun ds M Q _=>∃c:Int,ds=[.int c]∧0≤c∧∀(l:List Str) M' r,l.length=4→Kp M M'→readL M' r=some (l.map D.str)→Q (.ref r) M'
def spOperand:DSp:=fun ds M Q _=>∃(u c:Int) (g:Nat) (l:List Str),ds=[.int u,.int c,.ref g]∧Bits bigN c∧Bits 64 u∧l.length=4∧readL M g=some (l.map D.str)∧∀o:Opd,OB o→Q o.d M
def spRow:DSp:=fun ds M Q _=>∃(c:Int) (k nu na:Nat) (nums:List Nat) (l:List Str),ds=[.int c,.int k,.ref nu,.ref na]∧Bits bigN c∧readL M nu=some (natD nums)∧k<nums.length∧nums.length≤1000∧l.length=4∧readL M na=some (l.map D.str)∧
 ∀(r:Rw) M',(∀x,nums[k]?=some x→r.num=x)→(∀g,r.goal=some g→g∈nums)→RB r→Kp M M'→Q r.d M'
theorem mod_four(c:Int):c % 4=((0:Nat):Int)∨c % 4=((1:Nat):Int)∨c % 4=((2:Nat):Int)∨c % 4=((3:Nat):Int):=by omega
theorem mod_get{α:Type}{xs:List α}{c:Int}{n:Nat}(hn:xs.length=n)(h:0<n):∃(k:Nat) (d:α),c % (n:Int)=(k:Int)∧xs[k]?=some d:=by
 have h1:=Int.emod_nonneg c (show(n:Int)≠0 by omega)
 have h2:=Int.emod_lt_of_pos c (show(0:Int)<n by omega)
 exact⟨(c % (n:Int)).toNat,_,by omega,List.getElem?_eq_getElem (by omega)⟩
theorem str_get{xs:List Str}{k:Nat}{s:Str}(h:xs[k]?=some s):(xs.map D.str)[k]?=some (.str s):=by rw[List.getElem?_map,h];rfl
section
variable{K:PySem.W.Frag}
theorem r_Loperand{Γ G}(g16:Γ[16]?=some spGreat):∀ds M Q Z,spOperand ds M Q Z→tss ⟨K,Γ,G⟩ noX b_Loperand {nx:=fun _ M=>Q .non M,rt:=Q} (start0 N_Loperand ds) M:=by
 rintro ds M Q Z ⟨u,c,g,l,rfl,hcb,hub,hl,hg,q⟩
 simp only[b_Loperand,N_Loperand]
 walk_at "ev"
 split
 ·exact⟨_,rfl,hcb.add (hub.mono (by unfold bigN;omega)),fun v hv=>q (.no v) hv⟩
 ·simp only[b_Loperand_2]
  walk_at "ev"
  split
  ·refine⟨cdiv_lit (by decide) (by decide),q (.no _) ?_⟩
   show Bits 64 (qmod (qdiv u 8) 9 - 3)
   rw[qm (by decide)]
   have h1:=Int.emod_nonneg (qdiv u 8) (show(9:Int)≠0 by decide)
   have h2:=Int.emod_lt_of_pos (qdiv u 8) (show(0:Int)<9 by decide)
   generalize qdiv u 8 % 9=v at h1 h2
   unfold Bits
   omega
  ·simp only[b_Loperand_1]
   walk_at "ev"
   refine⟨cdiv_lit (by decide) (by decide),?_⟩
   try walk_at "ev"
   rw[qm (show(0:Int)<4 by decide)]
   obtain⟨k,hk,e⟩:∃k:Nat,k<4∧qdiv u 8 % 4=(k:Int):=by
    rcases mod_four (qdiv u 8) with e | e | e | e
    ·exact⟨0,by decide,e⟩
    ·exact⟨1,by decide,e⟩
    ·exact⟨2,by decide,e⟩
    ·exact⟨3,by decide,e⟩
   rw[e]
   exact ix_l hg (by rw[List.getElem?_map,List.getElem?_eq_getElem (by omega)];rfl) (q (.nm _) trivial)
theorem r_Lrow{Γ G}(g8:Γ[14]?=some spMixed)(g10:Γ[17]?=some spOperand):∀ds M Q Z,spRow ds M Q Z→tss ⟨K,Γ,G⟩ noX b_Lrow {nx:=fun _ M=>Q .non M,rt:=Q} (start0 N_Lrow ds) M:=by
 rintro ds M Q Z ⟨c,k,nu,na,nums,l,rfl,hcb,hnu,hk,h1000,hl,hna,q⟩
 obtain⟨x,hx⟩:∃x,nums[k]?=some x:=⟨_,List.getElem?_eq_getElem hk⟩
 simp only[b_Lrow,N_Lrow]
 walk_at "ev"
 try simp only[g8,g10]
 refine⟨c,k,rfl,by omega,by omega,?_⟩
 try walk_at "ev"
 have u0:=mix_lo c k
 have u1:=mix_hi c k
 generalize mix c k=u at u0 u1
 have sm16:Bits 64 (qdiv u 16):=by rw[qd (by decide)];unfold Bits;omega
 have sm1024:Bits 64 (qdiv u 1024):=by rw[qd (by decide)];unfold Bits;omega
 have cb3:Bits bigN (qdiv c 3):=by rw[←qdiv_eq];exact Nat.lt_of_le_of_lt (Int.natAbs_fdiv_le_natAbs c 3) hcb
 walk_at "ev"
 refine⟨cdiv_lit (by decide) (by decide),_,_,na,l,rfl,hcb,sm16,hl,hna,fun o1 ob1=>?_⟩
 walk_at "ev"
 refine⟨cdiv_lit (by decide) (by decide),cdiv_lit (by decide) (by decide),_,_,na,l,rfl,cb3,sm1024,hl,hna,fun o2 ob2=>?_⟩
 walk_at "ev"
 refine⟨cdiv_lit (by decide) (by decide),bf_len_l hnu ?_⟩
 try walk_at "ev"
 rw[natD_len]
 walk_at "ev"
 refine⟨by omega,?_⟩
 try walk_at "ev"
 rw[qm (show(0:Int)<nums.length by omega)]
 obtain⟨j,t,ej,hj⟩:=mod_get (xs:=nums) (c:=qdiv u 65536) rfl (by omega)
 rw[ej]
 refine ix_l hnu (natD_get hj) ?_
 try walk_at "ev"
 have ht:=List.mem_of_getElem? hj
 have hxe:∀y,nums[k]?=some y→x=y:=fun y hy=>by rw[hx] at hy;cases hy;rfl
 split
 ·obtain⟨j1,s1,e1,h1⟩:=mod_get (xs:=(["+","-","/","rest","&","^"]:List Str)) (c:=qdiv u 97) (n:=6) rfl (by decide)
  obtain⟨j2,s2,e2,h2⟩:=mod_get (xs:=l) (c:=qdiv u 389) (n:=4) hl (by decide)
  rw[qm (show(0:Int)<6 by decide),show qdiv u 97 % 6=(j1:Int) from e1]
  refine⟨sizeLine_ge (by decide),cdiv_lit (by decide) (by decide),ix_l (readL_end _ _ []) (str_get h1) ?_⟩
  try walk_at "ev"
  refine ix_l (readL_app hnu) (natD_get hx) ?_
  try walk_at "ev"
  rw[qm (show(0:Int)<4 by decide),show qdiv u 389 % 4=(j2:Int) from e2]
  refine⟨cdiv_lit (by decide) (by decide),ix_l (readL_app hna) (str_get h2) ?_⟩
  try walk_at "ev"
  refine⟨sizeLine_ge (by decide),?_⟩
  try walk_at "ev"
  exact q (.sum x s2 o1 s1 o2) _ hxe (fun g h=>by cases h) ⟨ob1,ob2⟩ (Kp.new _ _)
 ·simp only[b_Lrow_3]
  walk_at "ev"
  split
  ·obtain⟨j1,s1,e1,h1⟩:=mod_get (xs:=(["<","="]:List Str)) (c:=qdiv u 193) (n:=2) rfl (by decide)
   rw[qm (show(0:Int)<2 by decide),show qdiv u 193 % 2=(j1:Int) from e1]
   refine ix_l hnu (natD_get hx) ⟨sizeLine_ge (by decide),cdiv_lit (by decide) (by decide),ix_l (readL_end _ _ []) (str_get h1) ⟨sizeLine_ge (by decide),?_⟩⟩
   try walk_at "ev"
   have hs1:s1="<"∨s1="=":=by
    have:=List.mem_of_getElem? h1
    simpa using this
   exact q (.test x o1 s1 o2 t) _ hxe (fun g h=>by cases h;exact ht) ⟨ob1,ob2,hs1⟩ (Kp.new _ _)
  ·simp only[b_Lrow_2]
   walk_at "ev"
   split
   ·refine ix_l hnu (natD_get hx) ⟨sizeLine_ge (by decide),?_⟩
    try walk_at "ev"
    exact q (.jump x t) _ hxe (fun g h=>by cases h;exact ht) trivial (Kp.refl _)
   ·simp only[b_Lrow_1]
    walk_at "ev"
    refine ix_l hnu (natD_get hx) ⟨sizeLine_ge (by decide),?_⟩
    try walk_at "ev"
    exact q (.fin x) _ hxe (fun g h=>by cases h) trivial (Kp.refl _)
end
section
variable{K:PySem.W.Frag}
theorem str_at{S:Str}{i:Nat}(h:i<S.length):∃c,atI S.cps.toList (i:Int)=some c:=by
 have:i<S.cps.toList.length:=by rw[Array.length_toList];exact h
 exact⟨_,atI_nat (List.getElem?_eq_getElem this)⟩
theorem nm_A{Γ G}{P:DEnds}{M:Store}{c:Int}{R:Ss}(h:∀sz n:Nat,sz<8→n<1+sz→tss ⟨K,Γ,G⟩ noX R P [some (.int c),some (.int ((1+sz:Nat):Int)),some (.int (n:Nat)),none,none,none,none] M):
  tss ⟨K,Γ,G⟩ noX (.cons (.set [1] (.bin .add (.int 1) (.bin .mod (.var 0) (.int 8)))) (.cons (.set [2] (.bin .mod (.bin .fdiv (.var 0) (.int 8)) (.var 1))) R)) P [some (.int c),none,none,none,none,none,none] M:=by
 walk_at "ev"
 have m1:=Int.emod_nonneg c (show(8:Int)≠0 by decide)
 have m2:=Int.emod_lt_of_pos c (show(0:Int)<8 by decide)
 rw[qm (show(0:Int)<8 by decide)]
 obtain⟨sz,hsz,esz⟩:∃sz:Nat,sz<8∧c % 8=(sz:Int):=⟨(c % 8).toNat,by omega,by omega⟩
 rw[esz,qm (show(0:Int)<1+(sz:Int) by omega)]
 have a1:=Int.emod_nonneg (qdiv c 8) (show(1+(sz:Int))≠0 by omega)
 have a2:=Int.emod_lt_of_pos (qdiv c 8) (show(0:Int)<1+(sz:Int) by omega)
 obtain⟨n,hat,eat⟩:∃n:Nat,n<1+sz∧qdiv c 8 % (1+(sz:Int))=(n:Int):=⟨(qdiv c 8 % (1+(sz:Int))).toNat,by omega,by omega⟩
 rw[eat,show(1+(sz:Int))=((1+sz:Nat):Int) by omega]
 exact⟨cdiv_lit (by decide) (by decide),by omega,rest_of (h sz n hsz hat)⟩
theorem nm_B{Γ G}{P:DEnds}{M:Store}{d0 d1:Option D}{n:Nat}{S:Str}{R:Ss}(h36:S.length=36)(h:∀S':Str,0<S'.length→S'.length≤100→tss ⟨K,Γ,G⟩ noX R P [d0,d1,some (.int (n:Nat)),some (.str S'),none,none,none] M):
  tss ⟨K,Γ,G⟩ noX (.cons (.set [3] (.str S)) (.cons (.ite (.cmp .eq (.var 2) (.int 0)) (.cons (.set [3] (.sl (.var 3) .no (.yes (.int 26)))) .nil) .nil) R)) P [d0,d1,some (.int (n:Nat)),none,none,none,none] M:=by
 walk_at "ev"
 by_cases h0:n=0
 ·rw[if_pos (by omega)]
  refine⟨sizeLine_ge (by omega),rest_of (h _ ?_ ?_)⟩
  ·have:=(fact_slice_ns S 26).1 (by decide) (by omega);omega
  ·have:=(fact_slice_ns S 26).1 (by decide) (by omega);omega
 ·rw[if_neg (by omega)]
  exact rest_of (h _ (by omega) (by omega))
theorem nm_C{Γ G}{P:DEnds}{M:Store}{c:Int}{sz n i r:Nat}{V S:Str}{d6:Option D}{xs:List D}(v8:V.length=8)(h0:0<S.length)(h1:S.length≤100)(hsz:sz<8)(hn:n<1+sz)(hi:i<4)(hr:readW M r=some xs)(hx:xs.length≤100)
  (h:∀(x:Str) (d6:Option D),P.nx [some (.int c),some (.int ((1+sz:Nat):Int)),some (.int (n:Nat)),some (.str S),some (.ref r),some (.int (i:Nat)),d6] (M.set r (.lst (xs++[.str x])))):
  tss ⟨K,Γ,G⟩ noX (.cons (.set [6] (.ix (.var 3) (.bin .mod (.bin .add (.bin .fdiv (.var 0) (.int 64)) (.bin .mul (.int 7) (.var 5))) (.bf .len (.cons (.var 3) .nil))))) (.cons (.expr (.mt .append (.var 4) (.cons (.bin .add (.bin .add (.sl (.str V) .no (.yes (.var 2))) (.var 6)) (.sl (.str V) (.yes (.bin .add (.var 2) (.int 1))) (.yes (.var 1)))) .nil))) .nil)) P [some (.int c),some (.int ((1+sz:Nat):Int)),some (.int (n:Nat)),some (.str S),some (.ref r),some (.int (i:Nat)),d6] M:=by
 walk_at "ev"
 have b1:=Int.emod_nonneg (qdiv c 64+7 * (i:Int)) (show(S.length:Int)≠0 by omega)
 have b2:=Int.emod_lt_of_pos (qdiv c 64+7 * (i:Int)) (show(0:Int)<S.length by omega)
 obtain⟨j,hj,ej⟩:∃j:Nat,j<S.length∧(qdiv c 64+7 * (i:Int)) % S.length=(j:Int):=⟨((qdiv c 64+7 * (i:Int)) % S.length).toNat,by omega,by omega⟩
 rw[qm (show(0:Int)<S.length by omega),ej]
 obtain⟨ch,hch⟩:=str_at hj
 refine⟨cdiv_lit (by decide) (by decide),mulR (by omega) (by omega),sizeLine_ge (by omega),by omega,sizeLine_ge (by omega),ch,hch,rest_of ?_⟩
 have l1:=(fact_slice_ns V (n:Nat)).1 (by omega) (by omega)
 have l2:=fact_slice_ss V ((n+1:Nat):Int) ((1+sz:Nat):Int) (by omega) (by omega) (by omega)
 have l0:(⟨#[ch]⟩:Str).length=1:=rfl
 have la:(Txt.slice V none (some (n:Int))++(⟨#[ch]⟩:Str)).length=(Txt.slice V none (some (n:Int))).length+1:=by
  show(_++#[ch]:Array Nat).size=_
  rw[Array.size_append];rfl
 walk_at "ev"
 rw[show((n:Int)+1)=((n+1:Nat):Int) by omega]
 exact⟨isSome_of (readW_readL hr),sizeLine_ge (by omega),sizeLine_ge (by omega),sizeLine_ge (by omega),sizeLine_ge (by omega),_,hr,sizeLine_gt (by omega),rest_of (h _ _)⟩
theorem r_Lnames{Γ G}:∀ds M Q Z,spNames ds M Q Z→tss ⟨K,Γ,G⟩ noX b_Lnames {nx:=fun _ M=>Q .non M,rt:=Q} (start0 N_Lnames ds) M:=by
 rintro ds M Q Z ⟨c,rfl,hc,q⟩
 refine nm_A (R:= .cons (.set [3] (.str "abcdefghijklmnopqrstuvwxyz0123456789")) (.cons (.ite (.cmp .eq (.var 2) (.int 0)) (.cons (.set [3] (.sl (.var 3) .no (.yes (.int 26)))) .nil) .nil) b_Lnames_3)) fun sz n hsz hn=>?_
 refine nm_B (by decide+kernel) fun S hS0 hS1=>?_
 simp only[b_Lnames_3]
 walk_at "ev"
 refine⟨sizeLine_ge (by decide),by decide,by decide,?_⟩
 have e4:(4:Int).toNat=4:=rfl
 rw[e4]
 refine forD_rng (fun i σ M'=>∃(l:List Str) (d5 d6:Option D),σ=[some (D.int c),some (D.int ((1+sz:Nat):Int)),some (D.int (n:Nat)),some (D.str S),some (.ref M.length),d5,d6]∧M'=M++[.lst (l.map D.str)]∧l.length=i) ⟨[],none,none,rfl,rfl,rfl⟩ ?_ ?_
 ·rintro i σ M' C hi ⟨l,d5,d6,rfl,rfl,hl⟩ hC
  simp only[Int.zero_add]
  refine nm_C (V:="v7w8x9yz") (by decide+kernel) hS0 hS1 hsz hn hi (readW_end _ _ []) (by rw[List.length_map];omega) fun x d6=>?_
  rw[set_end]
  exact hC _ _ ⟨l++[x],_,_,rfl,by rw[List.map_append];rfl,by rw[List.length_append,hl];rfl⟩
 ·rintro σ M' ⟨l,d5,d6,rfl,rfl,hl⟩
  simp only[b_Lnames_1]
  walk_at "ev"
  exact q l _ _ hl (Kp.new _ _) (readL_end _ _ [])
end
def spMemory:DSp:=fun ds M Q _=>∃(c:Int) (na:Nat) (l:List Str),ds=[.int c,.ref na]∧Bits bigN c∧l.length=4∧readL M na=some (l.map D.str)∧∀(kvs:List (Key×D)),MI 64 kvs→KI kvs→kvs.length≤8→Q (.ref M.length) (M++[.dct kvs])
theorem MI.put64{kvs:List (Key×D)}(h:MI 64 kvs)(k:Key){i:Int}(hi:Bits 64 i):MI 64 (putD kvs k (.int i)):=by
 intro j v e
 rw[valD_put] at e
 split at e
 ·cases e;exact⟨i,rfl,hi⟩
 ·exact h j v e
section
variable{K:PySem.W.Frag}
theorem r_Lmemory{Γ G}(g14:Γ[14]?=some spMixed)(g16:Γ[16]?=some spGreat):∀ds M Q Z,spMemory ds M Q Z→tss ⟨K,Γ,G⟩ noX b_Lmemory {nx:=fun _ M=>Q .non M,rt:=Q} (start0 N_Lmemory ds) M:=by
 rintro ds M Q Z ⟨c,na,l,rfl,hb,hl,hna,q⟩
 simp only[b_Lmemory,N_Lmemory]
 walk_at "ev"
 refine⟨by decide,by decide,?_⟩
 have e4:(4:Int).toNat=4:=rfl
 rw[e4]
 refine forD_rng (fun i σ M'=>∃(kvs:List (Key×D)) (d3 d4:Option D),σ=[some (.int c),some (.ref na),some (.ref M.length),d3,d4]∧M'=M++[.dct kvs]∧MI 64 kvs∧KI kvs∧kvs.length≤2 * i) ⟨[],none,none,rfl,rfl,(fun k v e=>by cases e),(fun k v e=>by cases e),Nat.le_refl _⟩ ?_ ?_
 ·rintro i σ M' C hi ⟨kvs,d3,d4,rfl,rfl,mi,ki,hk⟩ hC
  obtain⟨x,hx⟩:∃x,l[i]?=some x:=⟨_,List.getElem?_eq_getElem (by omega)⟩
  simp only[b_Lmemory_3,Int.zero_add]
  walk_at "ev"
  refine⟨c,i,rfl,by omega,by omega,?_⟩
  try walk_at "ev"
  have u0:=mix_lo c i
  have u1:=mix_hi c i
  generalize mix c i=u at u0 u1
  have tail:∀(kv:List (Key×D)),MI 64 kv→KI kv→kv.length≤2 * i+1→tss ⟨K,Γ,G⟩ noX b_Lmemory_2 {nx:=C,rt:=Q,bk:=fun σ' M'=>Rest ⟨K,Γ,G⟩ noX b_Lmemory_1 {nx:=fun x M=>Q D.non M,rt:=Q} σ' M',ct:=C} [some (.int c),some (.ref na),some (.ref M.length),some (.int i),some (.int u)] (M++[.dct kv]):=by
   intro kv m1 k1 l1
   simp only[b_Lmemory_2]
   walk_at "ev"
   split
   ·refine⟨cdiv_lit (by decide) (by decide),ix_l (readL_app hna) (str_get hx) ?_⟩
    try walk_at "ev"
    refine .inr ⟨kv,_,readD_end _ _ _,rfl,sizeLine_gt (by omega),?_⟩
    rw[set_end]
    have hbit:Bits 64 (qmod (qdiv u 4) 19 - 9):=by
     rw[qm (by decide)]
     have h1:=Int.emod_nonneg (qdiv u 4) (show(19:Int)≠0 by decide)
     have h2:=Int.emod_lt_of_pos (qdiv u 4) (show(0:Int)<19 by decide)
     generalize qdiv u 4 % 19=v at h1 h2
     unfold Bits
     omega
    exact hC _ _ ⟨_,_,_,rfl,rfl,m1.put64 _ hbit,k1.put _ _,by have:=putD_len1 kv (Sum.inr x) (.int (qmod (qdiv u 4) 19 - 9));omega⟩
   ·exact hC _ _ ⟨_,_,_,rfl,rfl,m1,k1,by omega⟩
  walk_at "ev"
  split
  ·have hub:Bits 64 u:=by unfold Bits;omega
   refine⟨_,rfl,hb.add (hub.mono (by unfold bigN;omega)),fun v hv=>?_⟩
   try walk_at "ev"
   refine ix_l (readL_app hna) (str_get hx) ?_
   try walk_at "ev"
   refine .inr ⟨kvs,_,readD_end _ _ _,rfl,sizeLine_gt (by omega),?_⟩
   rw[set_end]
   exact rest_of (tail _ (mi.put64 _ hv) (ki.put _ _) (by have:=putD_len1 kvs (Sum.inr x) (.int v);omega))
  ·exact rest_of (tail _ mi ki (by omega))
 ·rintro σ M' ⟨kvs,d3,d4,rfl,rfl,mi,ki,hk⟩
  simp only[b_Lmemory_1]
  try walk_at "ev"
  exact q _ mi ki (by omega)
end
def spRows:DSp:=fun ds M Q _=>∃(a:Nat) (h:Int) (na:Nat) (ns:List Int) (l:List Str),ds=[.ref a,.int h,.ref na]∧readL M a=some (ns.map .int)∧ns.length≤60∧(∀i∈ns,Bits bigN i)∧l.length=4∧readL M na=some (l.map D.str)∧
 ∀(rows:List Rw) M' r,RwOk rows→(∀w∈rows,RB w)→rows.length≤61→Kp M M'→readW M' r=some (rows.map Rw.d)→M.length≤r→Q (.ref r) M'
theorem rises_nodup{l:List Nat}(h:l.Pairwise (· < ·)):l.Nodup:=h.imp fun h=>Nat.ne_of_lt h
section
variable{K:PySem.W.Frag}
theorem r_Lrows{Γ G}(g8:Γ[14]?=some spMixed)(g11:Γ[18]?=some spRow):∀ds M Q Z,spRows ds M Q Z→tss ⟨K,Γ,G⟩ noX b_Lrows {nx:=fun _ M=>Q .non M,rt:=Q} (start0 N_Lrows ds) M:=by
 rintro ds M Q Z ⟨a,h,na,ns,l,rfl,ha,hl,hbs,hl4,hna,q⟩
 simp only[b_Lrows,N_Lrows]
 walk_at "ev"
 refine⟨sizeLine_ge (by decide),?_⟩
 try walk_at "ev"
 refine⟨cdiv_lit (by decide) (by decide),?_⟩
 try walk_at "ev"
 rw[qm (show(0:Int)<300 by decide)]
 have z0:=Int.emod_nonneg (qdiv h 4) (show(300:Int)≠0 by decide)
 obtain⟨y0,e0⟩:∃y0:Nat,1+qdiv h 4 % 300=(y0:Int):=⟨(1+qdiv h 4 % 300).toNat,by omega⟩
 rw[e0]
 refine bf_len_l (readL_app ha) ?_
 try walk_at "ev"
 refine⟨by rw[List.length_map];omega,by rw[List.length_map];omega,?_⟩
 rw[List.length_map,show((ns.length:Int)+1).toNat=ns.length+1 by omega]
 refine forD_rng (fun i σ M'=>∃(nums:List Nat) (y:Nat) (N:Store) (d5:Option D),σ=[some (.ref a),some (.int h),some (.ref na),some (.ref M.length),some (.int (y:Nat)),d5,none]∧M'=M++ .lst (natD nums)::N∧nums.length=i∧nums.Pairwise (· < ·)∧∀x∈nums,x<y)
  ⟨[],y0,[],none,rfl,rfl,rfl,List.Pairwise.nil,by simp⟩ ?_ ?_
 ·rintro i σ M' C hi ⟨nums,y,N,d5,rfl,rfl,hlen,hpw,hlt⟩ hC
  simp only[b_Lrows_3,Int.zero_add]
  walk_at "ev"
  refine⟨isSome_of (readL_end _ _ _),_,readW_end _ _ _,by rw[natD_len];exact sizeLine_gt (by omega),?_⟩
  rw[set_end,←natD_snoc]
  try walk_at "ev"
  refine⟨h,i,rfl,by omega,by omega,?_⟩
  try walk_at "ev"
  obtain⟨j,m,ej,hm⟩:=mod_get (xs:=([1,10,97]:List Nat)) (c:=qdiv h 1200) (n:=3) rfl (by decide)
  have hm0:0<m:=by
   have:=List.mem_of_getElem? hm
   simp at this
   omega
  rw[qm (show(0:Int)<3 by decide),show qdiv h 1200 % 3=(j:Int) from ej]
  refine⟨sizeLine_ge (by decide),cdiv_lit (by decide) (by decide),ix_l (xs:=natD [1,10,97]) (readL_end _ _ []) (natD_get hm) ?_⟩
  try walk_at "ev"
  refine⟨by omega,?_⟩
  try walk_at "ev"
  rw[qm (show(0:Int)<m by omega)]
  have nn:=Int.emod_nonneg (mix h i) (show(m:Int)≠0 by omega)
  generalize mix h i % (m:Int)=v at nn
  rw[show((y:Int)+1+v)=((y+1+v.toNat:Nat):Int) by omega,List.append_assoc,List.cons_append]
  refine hC _ _ ⟨nums++[y],y+1+v.toNat,_,_,rfl,rfl,by rw[List.length_append,hlen];rfl,List.pairwise_append.mpr ⟨hpw,List.pairwise_singleton _ _,fun x hx z hz=>?_⟩,fun x hx=>?_⟩
  ·rw[List.mem_singleton] at hz;subst hz;exact hlt x hx
  ·rcases List.mem_append.mp hx with hx | hx
   ·have:=hlt x hx;omega
   ·rw[List.mem_singleton] at hx;omega
 rintro σ M' ⟨nums,y,N,d5,rfl,rfl,hlen,hpw,hlt⟩
 simp only[b_Lrows_2]
 walk_at "ev"
 refine bf_len_l (readL_app ha) ⟨by omega,by rw[List.length_map];omega,?_⟩
 try walk_at "ev"
 rw[Int.toNat_natCast,List.length_map]
 simp only[capD,List.map_cons,List.map_nil,Option.bind_none,Option.bind_some,List.getElem?_cons_zero,List.getElem?_cons_succ,Option.join_some]
 rw[List.append_assoc,List.cons_append]
 have el:(M++ .lst (natD nums)::N).length=M.length+(N.length+1):=by simp
 rw[el]
 have hnaN:∀N',readL (M++N') na=some (l.map D.str):=fun N'=>readL_app hna
 refine compD_by (fun i σ M'=>∃(d1:Option D) (rows:List Rw) (X:Store),σ=[d1,some (.ref a),some (.ref M.length),some (.ref na)]∧M'=M++ .lst (natD nums)::(N++ .lst (rows.map Rw.d)::X)∧rows.map Rw.num=nums.take i∧(∀r∈rows,∀g,r.goal=some g→g∈nums)∧∀r∈rows,RB r) ⟨none,[],[],rfl,rfl,rfl,by simp,by simp⟩ (fun _ _ _ _ _=>trivial) ?_ ?_
 ·rintro i dx σ M' C hx ⟨d1,rows,X,rfl,rfl,hn,hg,hb⟩ hC
  have hi:i<ns.length:=by
   have:=(List.getElem?_eq_some_iff.mp hx).1
   rwa[intsD_length] at this
  rw[intsD_get hi] at hx
  cases hx
  simp only[Int.zero_add]
  walk_at "ev"
  refine ix_l (k:=i) (readL_app ha) (by rw[List.getElem?_map,List.getElem?_eq_getElem hi];rfl) ?_
  try simp only[g11]
  refine⟨_,i,M.length,na,nums,l,rfl,hbs _ (List.getElem_mem hi),readL_end _ _ _,by omega,by omega,hl4,hnaN _,fun r M2 e1 e2 e3 k2=>?_⟩
  try walk_at "ev"
  obtain⟨Y,rfl⟩:=k2
  have hlr:rows.length=i:=by have:=congrArg List.length hn;rw[List.length_map,List.length_take] at this;omega
  obtain⟨z,hz⟩:∃z,nums[i]?=some z:=⟨_,List.getElem?_eq_getElem (by omega)⟩
  rw[List.append_assoc]
  simp only[List.cons_append,List.append_assoc]
  have rd:∀c,readW (M++ .lst (natD nums)::(N++ .lst c::(X++Y))) (M.length+(N.length+1))=some c:=fun c=>by rw[readW_endk];exact readW_end N _ _
  refine⟨_,rd _,by rw[List.length_map];exact sizeLine_gt (by omega),?_⟩
  try walk_at "ev"
  rw[set_endk,List.set_cons_succ,set_end]
  refine hC _ _ ⟨_,rows++[r],X++Y,rfl,by rw[List.map_append];rfl,by rw[List.map_append,hn,take_snoc hz];show _++[r.num]=_;rw[e1 z hz],fun r' hr'=>?_,fun r' hr'=>?_⟩
  ·rcases List.mem_append.mp hr' with h | h
   ·exact hg r' h
   ·rw[List.mem_singleton] at h;subst h;exact e2
  ·rcases List.mem_append.mp hr' with h | h
   ·exact hb r' h
   ·rw[List.mem_singleton] at h;subst h;exact e3
 ·rintro σ M' ⟨d1,rows,X,rfl,rfl,hn,hg,hb⟩
  rw[intsD_length] at hn
  have hne:nums≠[]:=by rintro rfl;simp at hlen
  obtain⟨nums',z,rfl⟩:∃nums' z,nums=nums'++[z]:=⟨nums.dropLast,nums.getLast hne,(List.dropLast_concat_getLast hne).symm⟩
  rw[List.length_append,List.length_singleton] at hlen
  have hl':nums'.length=ns.length:=by omega
  rw[List.take_append_of_le_length (by omega),←hl',List.take_length] at hn
  have hlr:rows.length=ns.length:=by have:=congrArg List.length hn;rw[List.length_map] at this;omega
  have lastN:atI (natD (nums'++[z])) (-1)=some (.int (z:Nat)):=by rw[natD_snoc];exact atI_last _ _
  have rd:∀c,readW (M++ .lst (natD (nums'++[z]))::(N++ .lst c::X)) (M.length+(N.length+1))=some c:=fun c=>by rw[readW_endk];exact readW_end N _ _
  have fin:∀r:Rw,r.num=z→r.goes=false→(∀g,r.goal=some g→g∈nums'++[z])→RB r→∀d5,∃xs,readW (M++ .lst (natD (nums'++[z]))::(N++ .lst (rows.map Rw.d)::X)) (M.length+(N.length+1))=some xs∧xs.length<sizeLine∧tss ⟨K,Γ,G⟩ noX b_Lrows_1 {nx:=fun _ M=>Q .non M,rt:=Q} [some (.ref a),some (.int h),some (.ref na),some (.ref M.length),some (.int (y:Nat)),d5,some (.ref (M.length+(N.length+1)))] ((M++ .lst (natD (nums'++[z]))::(N++ .lst (rows.map Rw.d)::X):Store).set (M.length+(N.length+1)) (.lst (xs++[r.d]))):=by
   intro r e1 e2 e3 e4 d5
   refine⟨_,rd _,by rw[List.length_map];exact sizeLine_gt (by omega),?_⟩
   try walk_at "ev"
   rw[set_endk,List.set_cons_succ,set_end]
   simp only[b_Lrows_1]
   walk_at "ev"
   have en:(rows++[r]).map Rw.num=nums'++[z]:=by rw[List.map_append,hn];show _++[r.num]=_;rw[e1]
   refine q (rows++[r]) _ _ ⟨by simp,by rw[List.length_append,List.length_singleton];omega,by rw[en];exact rises_nodup hpw,fun r' hr' g hg'=>?_,fun p r' hp hgo=>?_⟩ (fun r' hr'=>?_) (by rw[List.length_append,List.length_singleton];omega) (Kp.new _ _) (by rw[List.map_append];exact rd _) (by omega)
   ·rw[en]
    rcases List.mem_append.mp hr' with h | h
    ·exact hg r' h g hg'
    ·rw[List.mem_singleton] at h;subst h;exact e3 g hg'
   ·rw[List.length_append,List.length_singleton]
    by_cases hpl:p<rows.length
    ·omega
    ·rw[List.getElem?_append_right (by omega)] at hp
     have:=List.mem_of_getElem? hp
     rw[List.mem_singleton] at this
     subst this
     rw[e2] at hgo
     cases hgo
   ·rcases List.mem_append.mp hr' with h | h
    ·exact hb r' h
    ·rw[List.mem_singleton] at h;subst h;exact e4
  have isS:(readL (M++ .lst (natD (nums'++[z]))::(N++ .lst (rows.map Rw.d)::X)) (M.length+(N.length+1))).isSome=true:=isSome_of (readW_readL (rd _))
  try walk_at "ev"
  refine⟨cdiv_lit (by decide) (by decide),?_⟩
  try walk_at "ev"
  split
  ·refine⟨isS,.inl ⟨_,-1,_,rfl,readL_end _ _ _,lastN,?_⟩⟩
   try walk_at "ev"
   refine⟨cdiv_lit (by decide) (by decide),bf_len_l (readL_end _ _ _) ?_⟩
   try walk_at "ev"
   rw[natD_len]
   try walk_at "ev"
   refine⟨by rw[List.length_append,List.length_singleton];omega,?_⟩
   try walk_at "ev"
   rw[qm (show(0:Int)< (nums'++[z]).length by rw[List.length_append,List.length_singleton];omega)]
   obtain⟨j,t,ej,hj⟩:=mod_get (xs:=nums'++[z]) (c:=qdiv h 10800) rfl (by rw[List.length_append,List.length_singleton];omega)
   rw[ej]
   refine ix_l (readL_end _ _ _) (natD_get hj) ⟨sizeLine_ge (by decide),?_⟩
   exact fin (.jump z t) rfl rfl (fun g e=>by cases e;exact List.mem_of_getElem? hj) trivial none
  ·refine⟨isS,.inl ⟨_,-1,_,rfl,readL_end _ _ _,lastN,sizeLine_ge (by decide),?_⟩⟩
   exact fin (.fin z) rfl rfl (fun g e=>by cases e) trivial none
end
theorem cut_map{α β:Type}(f:α→β)(xs:List α)(lo hi:Option Int):U.cutD (xs.map f) lo hi=(U.cutD xs lo hi).map f:=by
 unfold U.cutD
 rw[List.length_map,List.map_take,List.map_drop]
theorem cut_mem{α:Type}{xs:List α}{lo hi:Option Int}{x:α}(h:x∈U.cutD xs lo hi):x∈xs:=List.mem_of_mem_drop (List.mem_of_mem_take h)
theorem cut_len(ns:List Int):(U.cutD ns (some 3) (some 63)).length≤60:=by
 unfold U.cutD
 have e1:HT.sIx ns.length 0 (some 3)=min (3:Int).toNat ns.length:=by
  show(if (3:Int)<0 then((3:Int)+(ns.length:Int)).toNat else min (3:Int).toNat ns.length)=_
  rw[if_neg (by decide)]
 have e2:HT.sIx ns.length ns.length (some 63)=min (63:Int).toNat ns.length:=by
  show(if (63:Int)<0 then((63:Int)+(ns.length:Int)).toNat else min (63:Int).toNat ns.length)=_
  rw[if_neg (by decide)]
 rw[List.length_take,List.length_drop,e1,e2]
 have:(3:Int).toNat=3:=rfl
 have:(63:Int).toNat=63:=rfl
 omega
theorem rw_dd(r:Rw):Dd r.d:=by
 cases r with
 | sum k x a sg b=>exact⟨_,rfl,by simp,by cases a<;>cases b<;>rfl⟩
 | test k a sg b g=>exact⟨_,rfl,by simp,by cases a<;>cases b<;>rfl⟩
 | jump k g=>exact⟨_,rfl,by simp,rfl⟩
 | fin k=>exact⟨_,rfl,by simp,rfl⟩
def rows2(n0 n1:Str):List Rw:=[.sum 7 n0 (.no 5) "+" (.nm n1),.fin 9]
def kvs2(n1:Str):List (Key×D):=[(Sum.inr n1,.int 4)]
theorem ok2(n0 n1:Str):RwOk (rows2 n0 n1) where
 pos:=Nat.zero_lt_succ _
 small:=by show 2≤2000;decide
 nd:=by show [7,9].Nodup;decide
 goal:=fun r hr g hg=>by
  rcases List.mem_cons.mp hr with rfl | hr
  ·cases hg
  ·cases List.mem_singleton.mp hr;cases hg
 last:=fun p r hp hg=>by
  match p,hp with
  | 0,_=>show 1<2;decide
  | 1,hp=>cases hp;cases hg
  | p+2,hp=>cases hp
theorem rb2(n0 n1:Str):∀r∈rows2 n0 n1,RB r:=by
 intro r hr
 rcases List.mem_cons.mp hr with rfl | hr
 ·exact⟨show Bits 64 5 by unfold Bits;decide,trivial⟩
 ·cases List.mem_singleton.mp hr;trivial
theorem val2(n1:Str):valD (kvs2 n1) (Sum.inr n1)=some (.int 4):=by
 unfold valD kvs2
 rw[List.find?_cons_of_pos (by simp)]
 rfl
theorem ki2(n1:Str):KI (kvs2 n1):=by
 intro k v h
 cases List.mem_singleton.mp h
 exact⟨val2 n1,4,rfl⟩
theorem mi2(n1:Str):MI 64 (kvs2 n1):=by
 intro k v h
 unfold valD kvs2 at h
 rw[Option.map_eq_some_iff] at h
 obtain⟨a,h,rfl⟩:=h
 have:=List.mem_of_find?_eq_some h
 cases List.mem_singleton.mp this
 exact⟨4,rfl,by unfold Bits;decide⟩
theorem other_is(n0 n1:Str):lawR (rows2 n0 n1) 3 (kvs2 n1)=([sumT n0 5 "+" 4 9],("end":Str),putD (kvs2 n1) (Sum.inr n0) (.int 9)):=by
 have w:wI (kvs2 n1) (.nm n1)=4:=by show dI ((valD (kvs2 n1) (Sum.inr n1)).getD (.int 0))=4;rw[val2];rfl
 have e:stp (kvs2 n1) (.sum n0 (.no 5) "+" (.nm n1) 1)=some (sumT n0 5 "+" 4 9,putD (kvs2 n1) (Sum.inr n0) (.int 9),1):=by
  rw[stp_sum,w]
  rfl
 have c0:chs (rows2 n0 n1) ((rows2 n0 n1).length+1) 0=some 0:=chs_stay rfl
 have c1:chs (rows2 n0 n1) ((rows2 n0 n1).length+1) 1=some 1:=chs_stay rfl
 unfold lawR
 rw[c0,lawC_stp (n:= .sum n0 (.no 5) "+" (.nm n1) 1) rfl e]
 dsimp only
 rw[c1,lawC_end (n:= .fin) rfl (.inl rfl)]
 rfl
section
variable{K:PySem.W.Frag}
theorem r_law{Γ G}(g12:Γ[12]?=some spRun)(g13:Γ[13]?=some spCell)(g14:Γ[14]?=some spMixed)(g15:Γ[15]?=some spNames)(g19:Γ[19]?=some spRows)(g20:Γ[20]?=some spMemory)(g21:Γ[21]?=some (spAlike 2))(g22:Γ[22]?=some spSame)(g26:Γ[26]?=some spRun)(g27:Γ[27]?=some spFits):∀ds M Q Z,spLaw ds M Q Z→tss ⟨K,Γ,G⟩ noX b_law {nx:=fun _ M=>Q .non M,rt:=Q} (start0 N_law ds) M:=by
 rintro ds M Q Z ⟨ns,rfl,rfl,hns,hbits,q⟩
 have h0:readL [Cell.frz (ns.map .int)] 0=some (ns.map .int):=rfl
 simp only[b_law,N_law]
 walk_at "ev"
 refine⟨0,ns,0,rfl,rfl,?_⟩
 walk_at "ev"
 refine⟨0,ns,1,rfl,rfl,?_⟩
 walk_at "ev"
 refine⟨_,1,rfl,by decide,by decide,?_⟩
 walk_at "ev"
 refine⟨_,rfl,mix_lo _ _,fun l M1 nm hl4 k1 hnm=>?_⟩
 have s1:=k1.L h0
 walk_at "ev"
 refine⟨_,s1,?_⟩
 walk_at "ev"
 refine⟨_,_,nm,U.cutD ns (some 3) (some 63),l,rfl,by rw[←cut_map];exact readL_end _ _ [],cut_len ns,fun i hi=>hbits i (cut_mem hi),hl4,readL_app hnm,fun rows M2 rr ok rb hl61 k2 hrr _=>?_⟩
 have hnm2:=k2.L (readL_app hnm)
 have s2:=k2.L (readL_app s1)
 clear k2 s1 hnm k1
 walk_at "ev"
 refine⟨0,ns,1,rfl,s2,?_⟩
 walk_at "ev"
 refine⟨_,nm,l,rfl,cell_bits hbits 1,hl4,hnm2,fun kvs mi ki hk8=>?_⟩
 have s3:=readL_app (N:=[Cell.dct kvs]) s2
 have hnm3:=readL_app (N:=[Cell.dct kvs]) hnm2
 have hrr3:=readW_app (N:=[Cell.dct kvs]) hrr
 have hmm3:=readD_end M2 kvs []
 generalize M2++[Cell.dct kvs]=M3 at s3 hnm3 hrr3 hmm3 ⊢
 generalize M2.length=mm at hmm3 ⊢
 clear s2 hnm2 hrr M2
 walk_at "ev"
 refine⟨0,ns,2,rfl,s3,?_⟩
 walk_at "ev"
 refine⟨_,2,rfl,by decide,by decide,?_⟩
 walk_at "ev"
 rw[qm (show(0:Int)<120 by decide)]
 obtain⟨most,hmo,emo⟩:∃n:Nat,n<120∧mix (cellI ns 2) 2 % 120=(n:Int):=⟨(mix (cellI ns 2) 2 % 120).toNat,by have:=Int.emod_lt_of_pos (mix (cellI ns 2) 2) (show(0:Int)<120 by decide);omega,by have:=Int.emod_nonneg (mix (cellI ns 2) 2) (show(120:Int)≠0 by decide);omega⟩
 rw[emo]
 walk_at "ev"
 refine⟨rr,mm,most,rows,kvs,rfl,readW_readL hrr3,ok,rb,hmm3,mi,by omega,by omega,fun M4 dr dh k4 hdr hdh _ _=>?_⟩
 walk_at "ev"
 have hrr4:=k4.W hrr3
 have hmm4:=k4.D hmm3
 have hnm4:=k4.L hnm3
 clear k4 s3 hnm3 hrr3 hmm3
 refine⟨_,readW_readL hrr4,.inl ⟨kvs,readD_app hmm4,sizeLine_ge (by decide),rest_of ?_⟩⟩
 rw[show(M4++[Cell.lst (rows.map Rw.d)]:Store).length=M4.length+1 by simp,show(M4++[Cell.lst (rows.map Rw.d)]++[Cell.dct kvs]:Store).length=M4.length+2 by simp,show(M4++[Cell.lst (rows.map Rw.d)]++[Cell.dct kvs]++[Cell.lst [D.ref M4.length,D.ref (M4.length+1)]]:Store)=M4++[.lst (rows.map Rw.d),.dct kvs,.lst [.ref M4.length,.ref (M4.length+1)]] by simp]
 have b1:=read_lt (readW_readL hrr4)
 have b2:=readD_lt hmm4
 have b3:=read_lt hnm4
 have b4:=read_lt (readW_readL hdr)
 have b5:=readD_lt hdh
 have hA:=readW_end M4 (rows.map Rw.d) [.dct kvs,.lst [.ref M4.length,.ref (M4.length+1)]]
 have hB:readD (M4++[.lst (rows.map Rw.d),.dct kvs,.lst [.ref M4.length,.ref (M4.length+1)]]) (M4.length+1)=some kvs:=by rw[readD_endk];rfl
 have hH:readW (M4++[.lst (rows.map Rw.d),.dct kvs,.lst [.ref M4.length,.ref (M4.length+1)]]) (M4.length+2)=some [.ref M4.length,.ref (M4.length+1)]:=by rw[readW_endk];rfl
 have hlen:(M4++[.lst (rows.map Rw.d),.dct kvs,.lst [.ref M4.length,.ref (M4.length+1)]]:Store).length=M4.length+3:=by simp
 have hrr5:=readW_app (N:=[.lst (rows.map Rw.d),.dct kvs,.lst [.ref M4.length,.ref (M4.length+1)]]) hrr4
 have hmm5:=readD_app (N:=[.lst (rows.map Rw.d),.dct kvs,.lst [.ref M4.length,.ref (M4.length+1)]]) hmm4
 have hnm5:=readL_app (N:=[.lst (rows.map Rw.d),.dct kvs,.lst [.ref M4.length,.ref (M4.length+1)]]) hnm4
 have hdr5:=readW_app (N:=[.lst (rows.map Rw.d),.dct kvs,.lst [.ref M4.length,.ref (M4.length+1)]]) hdr
 have hdh5:=readD_app (N:=[.lst (rows.map Rw.d),.dct kvs,.lst [.ref M4.length,.ref (M4.length+1)]]) hdh
 generalize (M4++[.lst (rows.map Rw.d),.dct kvs,.lst [.ref M4.length,.ref (M4.length+1)]]:Store)=M5 at hA hB hH hlen hrr5 hmm5 hnm5 hdr5 hdh5 ⊢
 clear hrr4 hmm4 hnm4 hdr hdh
 generalize M4.length=n at b1 b2 b3 b4 b5 hA hB hH hlen ⊢
 have T:=lawR_facts rows most ki
 have T1:=T.few
 walk_at "ev"
 refine ix_l (k:=0) (readW_readL hH) rfl (ix_l (k:=1) (readW_readL hH) rfl ?_)
 try walk_at "ev"
 refine⟨n,n+1,most,rows,kvs,rfl,readW_readL hA,ok,rb,hB,mi,by omega,by omega,fun M6 fr fh k6 hfr hfh c1 c2=>?_⟩
 have hA6:=k6.W hA
 have hB6:=k6.D hB
 have hH6:=k6.W hH
 have hrr6:=k6.W hrr5
 have hmm6:=k6.D hmm5
 have hnm6:=k6.L hnm5
 have hdr6:=k6.W hdr5
 have hdh6:=k6.D hdh5
 rw[hlen] at c1 c2
 clear k6 hA hB hH hrr5 hmm5 hnm5 hdr5 hdh5 hlen
 walk_at "ev"
 refine⟨fr,dr,fh,dh,_,_,_,rfl,hfr,hdr6,by omega,T.dd,hfh,hdh6,by omega,T.ki,?_⟩
 try walk_at "ev"
 refine ix_l (k:=0) (readW_readL hH6) rfl ?_
 try walk_at "ev"
 refine⟨_,_,rfl,AL.dds hA6 hrr6 (by rw[List.length_map];omega) (fun d hd=>by obtain⟨r,_,rfl⟩:=List.mem_map.mp hd;exact rw_dd r),?_⟩
 try walk_at "ev"
 refine ix_l (k:=1) (readW_readL hH6) rfl ?_
 try walk_at "ev"
 refine⟨n+1,mm,kvs,rfl,hB6,hmm6,by omega,ki,?_⟩
 try walk_at "ev"
 simp only[b_law_2]
 walk_at "ev"
 refine ix_l (k:=0) (readW_readL hH6) rfl ?_
 try walk_at "ev"
 refine⟨isSome_of (readW_readL hA6),_,hA6,rest_of ?_⟩
 have hB7:readD (M6.set n (.lst [])) (n+1)=some kvs:=by rw[readD_set_ne (by omega)];exact hB6
 have hH7:readW (M6.set n (.lst [])) (n+2)=some [.ref n,.ref (n+1)]:=by rw[readW_set_ne (by omega)];exact hH6
 have hrr7:readW (M6.set n (.lst [])) rr=some (rows.map Rw.d):=by rw[readW_set_ne (by omega)];exact hrr6
 have hmm7:readD (M6.set n (.lst [])) mm=some kvs:=by rw[readD_set_ne (by omega)];exact hmm6
 have hnm7:readL (M6.set n (.lst [])) nm=some (l.map D.str):=by rw[readL_set_ne (by omega)];exact hnm6
 have hdr7:readW (M6.set n (.lst [])) dr=some (lawR rows most kvs).1:=by rw[readW_set_ne (by omega)];exact hdr6
 have hdh7:readD (M6.set n (.lst [])) dh=some (lawR rows most kvs).2.2:=by rw[readD_set_ne (by omega)];exact hdh6
 have hfr7:readW (M6.set n (.lst [])) fr=some (lawR rows most kvs).1:=by rw[readW_set_ne (by omega)];exact hfr
 have hfh7:readD (M6.set n (.lst [])) fh=some (lawR rows most kvs).2.2:=by rw[readD_set_ne (by omega)];exact hfh
 generalize M6.set n (.lst [])=M7 at hB7 hH7 hrr7 hmm7 hnm7 hdr7 hdh7 hfr7 hfh7 ⊢
 clear hA6 hB6 hH6 hrr6 hmm6 hnm6 hdr6 hdh6 hfr hfh
 walk_at "ev"
 refine ix_l (k:=1) (readW_readL hH7) rfl ?_
 try walk_at "ev"
 refine⟨isSome_of hB7,_,hB7,rest_of ?_⟩
 have hrr:readW (M7.set (n+1) (.dct [])) rr=some (rows.map Rw.d):=by rw[readW_set_ne (by omega)];exact hrr7
 have hmm:readD (M7.set (n+1) (.dct [])) mm=some kvs:=by rw[readD_set_ne (by omega)];exact hmm7
 have hnm:readL (M7.set (n+1) (.dct [])) nm=some (l.map D.str):=by rw[readL_set_ne (by omega)];exact hnm7
 have hdr:readW (M7.set (n+1) (.dct [])) dr=some (lawR rows most kvs).1:=by rw[readW_set_ne (by omega)];exact hdr7
 have hdh:readD (M7.set (n+1) (.dct [])) dh=some (lawR rows most kvs).2.2:=by rw[readD_set_ne (by omega)];exact hdh7
 have hfr:readW (M7.set (n+1) (.dct [])) fr=some (lawR rows most kvs).1:=by rw[readW_set_ne (by omega)];exact hfr7
 have hfh:readD (M7.set (n+1) (.dct [])) fh=some (lawR rows most kvs).2.2:=by rw[readD_set_ne (by omega)];exact hfh7
 generalize M7.set (n+1) (.dct [])=M8 at hrr hmm hnm hdr hdh hfr hfh ⊢
 clear hB7 hH7 hrr7 hmm7 hnm7 hdr7 hdh7 hfr7 hfh7
 obtain⟨n0,hn0⟩:∃x,l[0]?=some x:=⟨_,List.getElem?_eq_getElem (by omega)⟩
 obtain⟨n1,hn1⟩:∃x,l[1]?=some x:=⟨_,List.getElem?_eq_getElem (by omega)⟩
 walk_at "ev"
 refine ix_l (k:=0) hnm (str_get hn0) ?_
 try walk_at "ev"
 refine ix_l (k:=1) hnm (str_get hn1) ?_
 try walk_at "ev"
 refine⟨sizeLine_ge (by decide),sizeLine_ge (by decide),sizeLine_ge (by decide),ix_l (k:=1) (readL_app (readL_app hnm)) (str_get hn1) ⟨_,rfl,readD_end _ _ [],?_⟩⟩
 rw[set_end]
 refine⟨M8.length,_,3,rows2 n0 n1,kvs2 n1,rfl,readL_app (readL_end _ _ []),ok2 n0 n1,rb2 n0 n1,readD_end _ _ [],mi2 n1,show 1≤50 by decide,by decide,fun M9 orr oh k9 hor hoh _ _=>?_⟩
 rw[other_is] at hor hoh ⊢
 have k8:Kp M8 M9:=((Kp.new _ _).app _).trans k9
 have hrr9:=k8.W hrr
 have hmm9:=k8.D hmm
 have hnm9:=k8.L hnm
 have hdr9:=k8.W hdr
 have hdh9:=k8.D hdh
 have hfr9:=k8.W hfr
 have hfh9:=k8.D hfh
 clear hrr hmm hnm hdr hdh hfr hfh k8 k9
 have e1:=read_lt (readW_readL hor)
 have e2:=readD_lt hoh
 dsimp only at hor hoh ⊢
 walk_at "ev"
 refine ix_l (k:=0) hnm9 (str_get hn0) ?_
 try walk_at "ev"
 refine⟨sizeLine_ge (by decide),sizeLine_ge (by decide),ix_l (k:=1) (readL_app (readL_app hnm9)) (str_get hn1) (ix_l (k:=0) (readL_app (readL_app hnm9)) (str_get hn0) ⟨_,_,rfl,rfl,readD_end _ _ [],sizeLine_ge (by decide),?_⟩)⟩
 rw[set_end]
 refine⟨orr,M9.length,oh,_,[sumT n0 5 "+" 4 9],"end",putD (kvs2 n1) (Sum.inr n0) (.int 9),rfl,readW_app (readW_app hor),readW_app (readW_end _ _ []),show 1≤100000 by decide,fun d hd=>?_,readD_app (readD_app hoh),readD_end _ _ [],by rw[List.length_append];omega,(ki2 n1).put _ _,?_⟩
 ·cases List.mem_singleton.mp hd;exact⟨_,rfl,by simp,rfl⟩
 have k10:Kp M9 (M9++[Cell.lst [sumT n0 5 "+" 4 9]]++[Cell.dct (putD (kvs2 n1) (Sum.inr n0) (.int 9))]):=(Kp.new _ _).app _
 have hrr:=k10.W hrr9
 have hmm:=k10.D hmm9
 have hdr:=k10.W hdr9
 have hdh:=k10.D hdh9
 have hfr:=k10.W hfr9
 have hfh:=k10.D hfh9
 have l10:(M9++[Cell.lst [D.tup [D.str "sum",D.str n0,D.int 5,D.str "+",D.int 4,D.int 9]]]++[Cell.dct (putD [(Sum.inr n1,D.int 4)] (Sum.inr n0) (D.int 9))]:Store)=M9++[Cell.lst [sumT n0 5 "+" 4 9]]++[Cell.dct (putD (kvs2 n1) (Sum.inr n0) (.int 9))]:=rfl
 rw[l10]
 generalize M9++[Cell.lst [sumT n0 5 "+" 4 9]]++[Cell.dct (putD (kvs2 n1) (Sum.inr n0) (.int 9))]=M10 at hrr hmm hdr hdh hfr hfh ⊢
 clear k10 hrr9 hmm9 hnm9 hdr9 hdh9 hfr9 hfh9 hor hoh e1 e2 l10
 walk_at "ev"
 simp only[b_law_1]
 walk_at "ev"
 refine⟨rr,mm,most,rows,kvs,rfl,readW_readL hrr,ok,rb,hmm,mi,by omega,by omega,fun M11 pr ph k11 hpr hph _ c4=>?_⟩
 have hdr11:=k11.W hdr
 have hdh11:=k11.D hdh
 have f1:=readD_lt hdh
 try walk_at "ev"
 refine⟨pr,dr,ph,dh,_,_,_,rfl,hpr,hdr11,by omega,T.dd,hph,hdh11,by omega,T.ki,?_⟩
 try walk_at "ev"
 exact⟨fr,dr,fh,dh,_,_,_,rfl,k11.W hfr,hdr11,by omega,T.dd,k11.D hfh,hdh11,by omega,T.ki,q _⟩
end
set_option maxHeartbeats 0 in
theorem ok_all{P:Program}{w:World}{K:PySem.W.Frag}{mg:Str→Option Value}{base:Heap}{t:Adr}(T:Tx K mg t):FnOk P w K mg base (CX1 P w) 33 t.a_law t.d_law ["_law_script"] (spF K spLaw):=by
 have PZ:Prg P w K mg base ⟨K,[bot,bot,bot,bot,bot,bot,bot,bot,bot,bot,bot,bot,bot,bot,bot,bot,bot,bot,bot,bot,bot,bot,bot,bot,bot,bot,bot,bot,bot,bot],[.cls t.a_JumpError,.cls t.a_ByNought]⟩ FN GN BN 0:=Prg.zero (ents T) rfl (by intro sp h;simp only[List.mem_cons,List.not_mem_nil,or_false,or_self] at h;exact h) (fun g x d h1 h2=>match g,h1,h2 with | 0,h1,h2=>by cases h1;cases h2;exact⟨.ref _,.ref _,T.g_JumpError,rfl,fun w _=>rd_cls.mpr rfl⟩ | 1,h1,h2=>by cases h1;cases h2;exact⟨.ref _,.ref _,T.g_ByNought,rfl,fun w _=>rd_cls.mpr rfl⟩ | n+2,h1,h2=>by cases h2) (blts T)
 have P0:=PZ.up (show 0≤2 by decide)
 have F0:=fn1 P0 (PrgR.one rfl T.mk_ByNought (T.i_ok _ _ _ _) (by decide) T.i_b1 T.i_b0 T.set_ByNought) T.F_quotient sc_quotient c_quotient (sp:=spQuo t.a_ByNought qdiv) (by rintro _ _ _ _ ⟨_,_,rfl,_⟩;rfl) r_quotient
 have P1:Prg P w K mg base ⟨K,[spQuo t.a_ByNought qdiv,bot,bot,bot,bot,bot,bot,bot,bot,bot,bot,bot,bot,bot,bot,bot,bot,bot,bot,bot,bot,bot,bot,bot,bot,bot,bot,bot,bot,bot],[.cls t.a_JumpError,.cls t.a_ByNought]⟩ FN GN BN 3:=P0.add 0 (x:="quotient") rfl F0 (Nat.le_refl _) (Nat.le_succ _) T.g_quotient T.k_quotient T.b_quotient
 have F1:=fn1 P1 (PrgR.one rfl T.mk_ByNought (T.i_ok _ _ _ _) (by decide) T.i_b1 T.i_b0 T.set_ByNought) T.F_rest sc_rest c_rest (sp:=spQuo t.a_ByNought qmod) (by rintro _ _ _ _ ⟨_,_,rfl,_⟩;rfl) r_rest
 have P2:Prg P w K mg base ⟨K,[spQuo t.a_ByNought qdiv,spQuo t.a_ByNought qmod,bot,bot,bot,bot,bot,bot,bot,bot,bot,bot,bot,bot,bot,bot,bot,bot,bot,bot,bot,bot,bot,bot,bot,bot,bot,bot,bot,bot],[.cls t.a_JumpError,.cls t.a_ByNought]⟩ FN GN BN 4:=P1.add 1 (x:="rest") rfl F1 (Nat.le_refl _) (Nat.le_succ _) T.g_rest T.k_rest T.b_rest
 have F2:=fn1 P2 PrgR.none T.F_made sc_made c_made (sp:=spMade t.a_ByNought) (by rintro _ _ _ _ ⟨_,_,_,rfl,_⟩;rfl) (r_made rfl rfl)
 have P3:Prg P w K mg base ⟨K,[spQuo t.a_ByNought qdiv,spQuo t.a_ByNought qmod,spMade t.a_ByNought,bot,bot,bot,bot,bot,bot,bot,bot,bot,bot,bot,bot,bot,bot,bot,bot,bot,bot,bot,bot,bot,bot,bot,bot,bot,bot,bot],[.cls t.a_JumpError,.cls t.a_ByNought]⟩ FN GN BN 5:=P2.add 2 (x:="made") rfl F2 (Nat.le_refl _) (Nat.le_succ _) T.g_made T.k_made T.b_made
 have F3:=fn0 P3 T.F_holds sc_holds c_holds (sp:=spHolds) (by rintro _ _ _ _ ⟨_,_,_,rfl,_⟩;rfl) r_holds
 have P4:Prg P w K mg base ⟨K,[spQuo t.a_ByNought qdiv,spQuo t.a_ByNought qmod,spMade t.a_ByNought,spHolds,bot,bot,bot,bot,bot,bot,bot,bot,bot,bot,bot,bot,bot,bot,bot,bot,bot,bot,bot,bot,bot,bot,bot,bot,bot,bot],[.cls t.a_JumpError,.cls t.a_ByNought]⟩ FN GN BN 6:=P3.add 3 (x:="holds") rfl F3 (Nat.le_refl _) (Nat.le_succ _) T.g_holds T.k_holds T.b_holds
 have F4:=fn0 P4 T.F_worth sc_worth c_worth (sp:=spWorth) (by rintro _ _ _ _ ⟨_,_,_,_,rfl,_⟩;rfl) r_worth
 have P5:Prg P w K mg base ⟨K,[spQuo t.a_ByNought qdiv,spQuo t.a_ByNought qmod,spMade t.a_ByNought,spHolds,spWorth,bot,bot,bot,bot,bot,bot,bot,bot,bot,bot,bot,bot,bot,bot,bot,bot,bot,bot,bot,bot,bot,bot,bot,bot,bot],[.cls t.a_JumpError,.cls t.a_ByNought]⟩ FN GN BN 7:=P4.add 4 (x:="worth") rfl F4 (Nat.le_refl _) (Nat.le_succ _) T.g_worth T.k_worth T.b_worth
 have F5:=fn1 P5 PrgR.none T.F_deed_of_sum sc_deed_of_sum c_deed_of_sum (sp:=spDeedSum t.a_ByNought) (by rintro _ _ _ _ ⟨_,_,_,_,_,_,_,_,rfl,_⟩;rfl) (r_deed_of_sum rfl rfl)
 have P6:Prg P w K mg base ⟨K,[spQuo t.a_ByNought qdiv,spQuo t.a_ByNought qmod,spMade t.a_ByNought,spHolds,spWorth,spDeedSum t.a_ByNought,bot,bot,bot,bot,bot,bot,bot,bot,bot,bot,bot,bot,bot,bot,bot,bot,bot,bot,bot,bot,bot,bot,bot,bot],[.cls t.a_JumpError,.cls t.a_ByNought]⟩ FN GN BN 8:=P5.add 5 (x:="deed_of_sum") rfl F5 (Nat.le_refl _) (Nat.le_succ _) T.g_deed_of_sum T.k_deed_of_sum T.b_deed_of_sum
 have F6:=fn0 P6 T.F_deed_of_test sc_deed_of_test c_deed_of_test (sp:=spDeedTest) (by rintro _ _ _ _ ⟨_,_,_,_,_,_,rfl,_⟩;rfl) (r_deed_of_test rfl rfl)
 have P7:Prg P w K mg base ⟨K,[spQuo t.a_ByNought qdiv,spQuo t.a_ByNought qmod,spMade t.a_ByNought,spHolds,spWorth,spDeedSum t.a_ByNought,spDeedTest,bot,bot,bot,bot,bot,bot,bot,bot,bot,bot,bot,bot,bot,bot,bot,bot,bot,bot,bot,bot,bot,bot,bot],[.cls t.a_JumpError,.cls t.a_ByNought]⟩ FN GN BN 9:=P6.add 6 (x:="deed_of_test") rfl F6 (Nat.le_refl _) (Nat.le_succ _) T.g_deed_of_test T.k_deed_of_test T.b_deed_of_test
 have F7:=fn0 P7 T.F_behind sc_behind c_behind (sp:=spBehind) (by rintro _ _ _ _ ⟨_,_,_,rfl,_⟩;rfl) r_behind
 have P8:Prg P w K mg base ⟨K,[spQuo t.a_ByNought qdiv,spQuo t.a_ByNought qmod,spMade t.a_ByNought,spHolds,spWorth,spDeedSum t.a_ByNought,spDeedTest,spBehind,bot,bot,bot,bot,bot,bot,bot,bot,bot,bot,bot,bot,bot,bot,bot,bot,bot,bot,bot,bot,bot,bot],[.cls t.a_JumpError,.cls t.a_ByNought]⟩ FN GN BN 10:=P7.add 7 (x:="behind") rfl F7 (Nat.le_refl _) (Nat.le_succ _) T.g_behind T.k_behind T.b_behind
 have F8:=fn1 P8 PrgR.none T.F_deed_of sc_deed_of c_deed_of (sp:=spDeedOf t.a_ByNought) (by rintro _ _ _ _ ⟨_,_,_,_,rfl,_⟩;rfl) (r_deed_of rfl rfl)
 have P9:Prg P w K mg base ⟨K,[spQuo t.a_ByNought qdiv,spQuo t.a_ByNought qmod,spMade t.a_ByNought,spHolds,spWorth,spDeedSum t.a_ByNought,spDeedTest,spBehind,spDeedOf t.a_ByNought,bot,bot,bot,bot,bot,bot,bot,bot,bot,bot,bot,bot,bot,bot,bot,bot,bot,bot,bot,bot,bot],[.cls t.a_JumpError,.cls t.a_ByNought]⟩ FN GN BN 11:=P8.add 8 (x:="deed_of") rfl F8 (Nat.le_refl _) (Nat.le_succ _) T.g_deed_of T.k_deed_of T.b_deed_of
 have F9:=fn0 P9 T.F_run_from sc_run_from c_run_from (sp:=spRunFrom) (by rintro _ _ _ _ ⟨_,_,_,_,_,_,rfl,_⟩;rfl) (r_run_from T.co_ByNought rfl rfl)
 have P10:Prg P w K mg base ⟨K,[spQuo t.a_ByNought qdiv,spQuo t.a_ByNought qmod,spMade t.a_ByNought,spHolds,spWorth,spDeedSum t.a_ByNought,spDeedTest,spBehind,spDeedOf t.a_ByNought,spRunFrom,bot,bot,bot,bot,bot,bot,bot,bot,bot,bot,bot,bot,bot,bot,bot,bot,bot,bot,bot,bot],[.cls t.a_JumpError,.cls t.a_ByNought]⟩ FN GN BN 12:=P9.add 9 (x:="run_from") rfl F9 (Nat.le_refl _) (Nat.le_succ _) T.g_run_from T.k_run_from T.b_run_from
 have F10:=fn0 P10 T.F_landings sc_landings c_landings (sp:=spLandings) (by rintro _ _ _ _ ⟨_,_,_,_,_,rfl,_⟩;rfl) r_landings
 have P11:Prg P w K mg base ⟨K,[spQuo t.a_ByNought qdiv,spQuo t.a_ByNought qmod,spMade t.a_ByNought,spHolds,spWorth,spDeedSum t.a_ByNought,spDeedTest,spBehind,spDeedOf t.a_ByNought,spRunFrom,spLandings,bot,bot,bot,bot,bot,bot,bot,bot,bot,bot,bot,bot,bot,bot,bot,bot,bot,bot,bot],[.cls t.a_JumpError,.cls t.a_ByNought]⟩ FN GN BN 13:=P10.add 10 (x:="landings") rfl F10 (Nat.le_refl _) (Nat.le_succ _) T.g_landings T.k_landings T.b_landings
 have F11:=fn0 P11 T.F_linked sc_linked c_linked (sp:=spLinked) (by rintro _ _ _ _ ⟨_,_,rfl,_⟩;rfl) (r_linked rfl)
 have P12:Prg P w K mg base ⟨K,[spQuo t.a_ByNought qdiv,spQuo t.a_ByNought qmod,spMade t.a_ByNought,spHolds,spWorth,spDeedSum t.a_ByNought,spDeedTest,spBehind,spDeedOf t.a_ByNought,spRunFrom,spLandings,spLinked,bot,bot,bot,bot,bot,bot,bot,bot,bot,bot,bot,bot,bot,bot,bot,bot,bot,bot],[.cls t.a_JumpError,.cls t.a_ByNought]⟩ FN GN BN 14:=P11.add 11 (x:="linked") rfl F11 (Nat.le_refl _) (Nat.le_succ _) T.g_linked T.k_linked T.b_linked
 have F12:=fn0 P12 T.F_run sc_run c_run (sp:=spRun) (by rintro _ _ _ _ ⟨_,_,_,_,_,rfl,_⟩;rfl) (r_run rfl rfl)
 have P13:Prg P w K mg base ⟨K,[spQuo t.a_ByNought qdiv,spQuo t.a_ByNought qmod,spMade t.a_ByNought,spHolds,spWorth,spDeedSum t.a_ByNought,spDeedTest,spBehind,spDeedOf t.a_ByNought,spRunFrom,spLandings,spLinked,spRun,bot,bot,bot,bot,bot,bot,bot,bot,bot,bot,bot,bot,bot,bot,bot,bot,bot],[.cls t.a_JumpError,.cls t.a_ByNought]⟩ FN GN BN 15:=P12.add 12 (x:="run") rfl F12 (Nat.le_refl _) (Nat.le_succ _) T.g_run T.k_run T.b_run
 obtain⟨tk12,eb12⟩:=T.e_run
 have P13d:Prg P w K mg base ⟨K,[spQuo t.a_ByNought qdiv,spQuo t.a_ByNought qmod,spMade t.a_ByNought,spHolds,spWorth,spDeedSum t.a_ByNought,spDeedTest,spBehind,spDeedOf t.a_ByNought,spRunFrom,spLandings,spLinked,spRun,bot,bot,bot,bot,bot,bot,bot,bot,bot,bot,bot,bot,bot,bot,bot,bot,(fun as M Q Z=>spRun (as++[.int 100]) M Q Z)],[.cls t.a_JumpError,.cls t.a_ByNought]⟩ FN GN BN 15:=P13.addD 29 (x:="run") rfl F12 (Nat.le_refl _) (Nat.le_refl _) T.g_run T.k_run eb12 (dD:=[.int 100]) (dvs:=[.int 100]) (.cons ⟨_,rfl⟩ .nil) (fun w _=>RDs.cons (rd_int.mpr rfl) (RDs.nil w))
 have F13:=fn0 P13d T.F_Lcell sc_Lcell c_Lcell (sp:=spCell) (by rintro _ _ _ _ ⟨_,_,_,rfl,_⟩;rfl) r_Lcell
 have P14:Prg P w K mg base ⟨K,[spQuo t.a_ByNought qdiv,spQuo t.a_ByNought qmod,spMade t.a_ByNought,spHolds,spWorth,spDeedSum t.a_ByNought,spDeedTest,spBehind,spDeedOf t.a_ByNought,spRunFrom,spLandings,spLinked,spRun,spCell,bot,bot,bot,bot,bot,bot,bot,bot,bot,bot,bot,bot,bot,bot,bot,(fun as M Q Z=>spRun (as++[.int 100]) M Q Z)],[.cls t.a_JumpError,.cls t.a_ByNought]⟩ FN GN BN 16:=P13d.add 13 (x:="_law_cell") rfl F13 (Nat.le_refl _) (Nat.le_succ _) T.g_Lcell T.k_Lcell T.b_Lcell
 have F14:=fn0 P14 T.F_Lmixed sc_Lmixed c_Lmixed (sp:=spMixed) (by rintro _ _ _ _ ⟨_,_,rfl,_⟩;rfl) r_Lmixed
 have P15:Prg P w K mg base ⟨K,[spQuo t.a_ByNought qdiv,spQuo t.a_ByNought qmod,spMade t.a_ByNought,spHolds,spWorth,spDeedSum t.a_ByNought,spDeedTest,spBehind,spDeedOf t.a_ByNought,spRunFrom,spLandings,spLinked,spRun,spCell,spMixed,bot,bot,bot,bot,bot,bot,bot,bot,bot,bot,bot,bot,bot,bot,(fun as M Q Z=>spRun (as++[.int 100]) M Q Z)],[.cls t.a_JumpError,.cls t.a_ByNought]⟩ FN GN BN 17:=P14.add 14 (x:="_law_mixed") rfl F14 (Nat.le_refl _) (Nat.le_succ _) T.g_Lmixed T.k_Lmixed T.b_Lmixed
 have F15:=fn0 P15 T.F_Lnames sc_Lnames c_Lnames (sp:=spNames) (by rintro _ _ _ _ ⟨_,rfl,_⟩;rfl) r_Lnames
 have P16:Prg P w K mg base ⟨K,[spQuo t.a_ByNought qdiv,spQuo t.a_ByNought qmod,spMade t.a_ByNought,spHolds,spWorth,spDeedSum t.a_ByNought,spDeedTest,spBehind,spDeedOf t.a_ByNought,spRunFrom,spLandings,spLinked,spRun,spCell,spMixed,spNames,bot,bot,bot,bot,bot,bot,bot,bot,bot,bot,bot,bot,bot,(fun as M Q Z=>spRun (as++[.int 100]) M Q Z)],[.cls t.a_JumpError,.cls t.a_ByNought]⟩ FN GN BN 18:=P15.add 15 (x:="_law_names") rfl F15 (Nat.le_refl _) (Nat.le_succ _) T.g_Lnames T.k_Lnames T.b_Lnames
 have F16:=fn0 P16 T.F_Lgreat sc_Lgreat c_Lgreat (sp:=spGreat) (by rintro _ _ _ _ ⟨_,rfl,_⟩;rfl) r_Lgreat
 have P17:Prg P w K mg base ⟨K,[spQuo t.a_ByNought qdiv,spQuo t.a_ByNought qmod,spMade t.a_ByNought,spHolds,spWorth,spDeedSum t.a_ByNought,spDeedTest,spBehind,spDeedOf t.a_ByNought,spRunFrom,spLandings,spLinked,spRun,spCell,spMixed,spNames,spGreat,bot,bot,bot,bot,bot,bot,bot,bot,bot,bot,bot,bot,(fun as M Q Z=>spRun (as++[.int 100]) M Q Z)],[.cls t.a_JumpError,.cls t.a_ByNought]⟩ FN GN BN 19:=P16.add 16 (x:="_law_great") rfl F16 (Nat.le_refl _) (Nat.le_succ _) T.g_Lgreat T.k_Lgreat T.b_Lgreat
 have F17:=fn0 P17 T.F_Loperand sc_Loperand c_Loperand (sp:=spOperand) (by rintro _ _ _ _ ⟨_,_,_,_,rfl,_⟩;rfl) (r_Loperand rfl)
 have P18:Prg P w K mg base ⟨K,[spQuo t.a_ByNought qdiv,spQuo t.a_ByNought qmod,spMade t.a_ByNought,spHolds,spWorth,spDeedSum t.a_ByNought,spDeedTest,spBehind,spDeedOf t.a_ByNought,spRunFrom,spLandings,spLinked,spRun,spCell,spMixed,spNames,spGreat,spOperand,bot,bot,bot,bot,bot,bot,bot,bot,bot,bot,bot,(fun as M Q Z=>spRun (as++[.int 100]) M Q Z)],[.cls t.a_JumpError,.cls t.a_ByNought]⟩ FN GN BN 20:=P17.add 17 (x:="_law_operand") rfl F17 (Nat.le_refl _) (Nat.le_succ _) T.g_Loperand T.k_Loperand T.b_Loperand
 have F18:=fn0 P18 T.F_Lrow sc_Lrow c_Lrow (sp:=spRow) (by rintro _ _ _ _ ⟨_,_,_,_,_,_,rfl,_⟩;rfl) (r_Lrow rfl rfl)
 have P19:Prg P w K mg base ⟨K,[spQuo t.a_ByNought qdiv,spQuo t.a_ByNought qmod,spMade t.a_ByNought,spHolds,spWorth,spDeedSum t.a_ByNought,spDeedTest,spBehind,spDeedOf t.a_ByNought,spRunFrom,spLandings,spLinked,spRun,spCell,spMixed,spNames,spGreat,spOperand,spRow,bot,bot,bot,bot,bot,bot,bot,bot,bot,bot,(fun as M Q Z=>spRun (as++[.int 100]) M Q Z)],[.cls t.a_JumpError,.cls t.a_ByNought]⟩ FN GN BN 21:=P18.add 18 (x:="_law_row") rfl F18 (Nat.le_refl _) (Nat.le_succ _) T.g_Lrow T.k_Lrow T.b_Lrow
 have F19:=fn0 P19 T.F_Lrows sc_Lrows c_Lrows (sp:=spRows) (by rintro _ _ _ _ ⟨_,_,_,_,_,rfl,_⟩;rfl) (r_Lrows rfl rfl)
 have P20:Prg P w K mg base ⟨K,[spQuo t.a_ByNought qdiv,spQuo t.a_ByNought qmod,spMade t.a_ByNought,spHolds,spWorth,spDeedSum t.a_ByNought,spDeedTest,spBehind,spDeedOf t.a_ByNought,spRunFrom,spLandings,spLinked,spRun,spCell,spMixed,spNames,spGreat,spOperand,spRow,spRows,bot,bot,bot,bot,bot,bot,bot,bot,bot,(fun as M Q Z=>spRun (as++[.int 100]) M Q Z)],[.cls t.a_JumpError,.cls t.a_ByNought]⟩ FN GN BN 22:=P19.add 19 (x:="_law_rows") rfl F19 (Nat.le_refl _) (Nat.le_succ _) T.g_Lrows T.k_Lrows T.b_Lrows
 have F20:=fn0 P20 T.F_Lmemory sc_Lmemory c_Lmemory (sp:=spMemory) (by rintro _ _ _ _ ⟨_,_,_,rfl,_⟩;rfl) (r_Lmemory rfl rfl)
 have P21:Prg P w K mg base ⟨K,[spQuo t.a_ByNought qdiv,spQuo t.a_ByNought qmod,spMade t.a_ByNought,spHolds,spWorth,spDeedSum t.a_ByNought,spDeedTest,spBehind,spDeedOf t.a_ByNought,spRunFrom,spLandings,spLinked,spRun,spCell,spMixed,spNames,spGreat,spOperand,spRow,spRows,spMemory,bot,bot,bot,bot,bot,bot,bot,bot,(fun as M Q Z=>spRun (as++[.int 100]) M Q Z)],[.cls t.a_JumpError,.cls t.a_ByNought]⟩ FN GN BN 23:=P20.add 20 (x:="_law_memory") rfl F20 (Nat.le_refl _) (Nat.le_succ _) T.g_Lmemory T.k_Lmemory T.b_Lmemory
 have F21_0:=fn0 P21 T.F_Lalike sc_Lalike c_Lalike (sp:=(spAlike 0)) (by rintro _ _ _ _ ⟨_,_,rfl,_⟩;rfl) r_Lalike0
 have P22_0:Prg P w K mg base ⟨K,[spQuo t.a_ByNought qdiv,spQuo t.a_ByNought qmod,spMade t.a_ByNought,spHolds,spWorth,spDeedSum t.a_ByNought,spDeedTest,spBehind,spDeedOf t.a_ByNought,spRunFrom,spLandings,spLinked,spRun,spCell,spMixed,spNames,spGreat,spOperand,spRow,spRows,spMemory,(spAlike 0),bot,bot,bot,bot,bot,bot,bot,(fun as M Q Z=>spRun (as++[.int 100]) M Q Z)],[.cls t.a_JumpError,.cls t.a_ByNought]⟩ FN GN BN 24:=P21.add 21 (x:="_law_alike") rfl F21_0 (Nat.le_refl _) (Nat.le_succ _) T.g_Lalike T.k_Lalike T.b_Lalike
 have F21_1:=fn0 P22_0 T.F_Lalike sc_Lalike c_Lalike (sp:=(spAlike 1)) (by rintro _ _ _ _ ⟨_,_,rfl,_⟩;rfl) (r_LalikeS rfl)
 have P22_1:Prg P w K mg base ⟨K,[spQuo t.a_ByNought qdiv,spQuo t.a_ByNought qmod,spMade t.a_ByNought,spHolds,spWorth,spDeedSum t.a_ByNought,spDeedTest,spBehind,spDeedOf t.a_ByNought,spRunFrom,spLandings,spLinked,spRun,spCell,spMixed,spNames,spGreat,spOperand,spRow,spRows,spMemory,(spAlike 1),bot,bot,bot,bot,bot,bot,bot,(fun as M Q Z=>spRun (as++[.int 100]) M Q Z)],[.cls t.a_JumpError,.cls t.a_ByNought]⟩ FN GN BN 25:=P22_0.add 21 (x:="_law_alike") rfl F21_1 (Nat.le_refl _) (Nat.le_succ _) T.g_Lalike T.k_Lalike T.b_Lalike
 have F21_2:=fn0 P22_1 T.F_Lalike sc_Lalike c_Lalike (sp:=(spAlike 2)) (by rintro _ _ _ _ ⟨_,_,rfl,_⟩;rfl) (r_LalikeS rfl)
 have P22:Prg P w K mg base ⟨K,[spQuo t.a_ByNought qdiv,spQuo t.a_ByNought qmod,spMade t.a_ByNought,spHolds,spWorth,spDeedSum t.a_ByNought,spDeedTest,spBehind,spDeedOf t.a_ByNought,spRunFrom,spLandings,spLinked,spRun,spCell,spMixed,spNames,spGreat,spOperand,spRow,spRows,spMemory,(spAlike 2),bot,bot,bot,bot,bot,bot,bot,(fun as M Q Z=>spRun (as++[.int 100]) M Q Z)],[.cls t.a_JumpError,.cls t.a_ByNought]⟩ FN GN BN 26:=P22_1.add 21 (x:="_law_alike") rfl F21_2 (Nat.le_refl _) (Nat.le_succ _) T.g_Lalike T.k_Lalike T.b_Lalike
 have F22:=fn0 P22 T.F_Lsame_memory sc_Lsame_memory c_Lsame_memory (sp:=spSame) (by rintro _ _ _ _ ⟨_,_,_,rfl,_⟩;rfl) (r_Lsame rfl)
 have P23:Prg P w K mg base ⟨K,[spQuo t.a_ByNought qdiv,spQuo t.a_ByNought qmod,spMade t.a_ByNought,spHolds,spWorth,spDeedSum t.a_ByNought,spDeedTest,spBehind,spDeedOf t.a_ByNought,spRunFrom,spLandings,spLinked,spRun,spCell,spMixed,spNames,spGreat,spOperand,spRow,spRows,spMemory,(spAlike 2),spSame,bot,bot,bot,bot,bot,bot,(fun as M Q Z=>spRun (as++[.int 100]) M Q Z)],[.cls t.a_JumpError,.cls t.a_ByNought]⟩ FN GN BN 27:=P22.add 22 (x:="_law_same_memory") rfl F22 (Nat.le_refl _) (Nat.le_succ _) T.g_Lsame_memory T.k_Lsame_memory T.b_Lsame_memory
 have F23:=fn0 P23 T.F_Lworth sc_Lworth c_Lworth (sp:=spWorth) (by rintro _ _ _ _ ⟨_,_,_,_,rfl,_⟩;rfl) r_Lworth
 have P24:Prg P w K mg base ⟨K,[spQuo t.a_ByNought qdiv,spQuo t.a_ByNought qmod,spMade t.a_ByNought,spHolds,spWorth,spDeedSum t.a_ByNought,spDeedTest,spBehind,spDeedOf t.a_ByNought,spRunFrom,spLandings,spLinked,spRun,spCell,spMixed,spNames,spGreat,spOperand,spRow,spRows,spMemory,(spAlike 2),spSame,spWorth,bot,bot,bot,bot,bot,(fun as M Q Z=>spRun (as++[.int 100]) M Q Z)],[.cls t.a_JumpError,.cls t.a_ByNought]⟩ FN GN BN 28:=P23.add 23 (x:="_law_worth") rfl F23 (Nat.le_refl _) (Nat.le_succ _) T.g_Lworth T.k_Lworth T.b_Lworth
 have F24:=fn0 P24 T.F_Lsum sc_Lsum c_Lsum (sp:=spLsum) (by rintro _ _ _ _ ⟨_,_,_,_,rfl,_⟩;rfl) r_Lsum
 have P25:Prg P w K mg base ⟨K,[spQuo t.a_ByNought qdiv,spQuo t.a_ByNought qmod,spMade t.a_ByNought,spHolds,spWorth,spDeedSum t.a_ByNought,spDeedTest,spBehind,spDeedOf t.a_ByNought,spRunFrom,spLandings,spLinked,spRun,spCell,spMixed,spNames,spGreat,spOperand,spRow,spRows,spMemory,(spAlike 2),spSame,spWorth,spLsum,bot,bot,bot,bot,(fun as M Q Z=>spRun (as++[.int 100]) M Q Z)],[.cls t.a_JumpError,.cls t.a_ByNought]⟩ FN GN BN 29:=P24.add 24 (x:="_law_sum") rfl F24 (Nat.le_refl _) (Nat.le_succ _) T.g_Lsum T.k_Lsum T.b_Lsum
 have F25:=fn0 P25 T.F_Ldeed sc_Ldeed c_Ldeed (sp:=spLdeed) (by rintro _ _ _ _ ⟨_,_,_,_,rfl,_⟩;rfl) (r_Ldeed rfl rfl)
 have P26:Prg P w K mg base ⟨K,[spQuo t.a_ByNought qdiv,spQuo t.a_ByNought qmod,spMade t.a_ByNought,spHolds,spWorth,spDeedSum t.a_ByNought,spDeedTest,spBehind,spDeedOf t.a_ByNought,spRunFrom,spLandings,spLinked,spRun,spCell,spMixed,spNames,spGreat,spOperand,spRow,spRows,spMemory,(spAlike 2),spSame,spWorth,spLsum,spLdeed,bot,bot,bot,(fun as M Q Z=>spRun (as++[.int 100]) M Q Z)],[.cls t.a_JumpError,.cls t.a_ByNought]⟩ FN GN BN 30:=P25.add 25 (x:="_law_deed") rfl F25 (Nat.le_refl _) (Nat.le_succ _) T.g_Ldeed T.k_Ldeed T.b_Ldeed
 have F26:=fn0 P26 T.F_Lrun sc_Lrun c_Lrun (sp:=spRun) (by rintro _ _ _ _ ⟨_,_,_,_,_,rfl,_⟩;rfl) (r_Lrun rfl)
 have P27:Prg P w K mg base ⟨K,[spQuo t.a_ByNought qdiv,spQuo t.a_ByNought qmod,spMade t.a_ByNought,spHolds,spWorth,spDeedSum t.a_ByNought,spDeedTest,spBehind,spDeedOf t.a_ByNought,spRunFrom,spLandings,spLinked,spRun,spCell,spMixed,spNames,spGreat,spOperand,spRow,spRows,spMemory,(spAlike 2),spSame,spWorth,spLsum,spLdeed,spRun,bot,bot,(fun as M Q Z=>spRun (as++[.int 100]) M Q Z)],[.cls t.a_JumpError,.cls t.a_ByNought]⟩ FN GN BN 31:=P26.add 26 (x:="_law_run") rfl F26 (Nat.le_refl _) (Nat.le_succ _) T.g_Lrun T.k_Lrun T.b_Lrun
 have F27:=fn0 P27 T.F_Lfits sc_Lfits c_Lfits (sp:=spFits) (by rintro _ _ _ _ ⟨_,_,_,_,_,_,_,rfl,_⟩;rfl) (r_Lfits rfl rfl)
 have P28:Prg P w K mg base ⟨K,[spQuo t.a_ByNought qdiv,spQuo t.a_ByNought qmod,spMade t.a_ByNought,spHolds,spWorth,spDeedSum t.a_ByNought,spDeedTest,spBehind,spDeedOf t.a_ByNought,spRunFrom,spLandings,spLinked,spRun,spCell,spMixed,spNames,spGreat,spOperand,spRow,spRows,spMemory,(spAlike 2),spSame,spWorth,spLsum,spLdeed,spRun,spFits,bot,(fun as M Q Z=>spRun (as++[.int 100]) M Q Z)],[.cls t.a_JumpError,.cls t.a_ByNought]⟩ FN GN BN 32:=P27.add 27 (x:="_law_fits") rfl F27 (Nat.le_refl _) (Nat.le_succ _) T.g_Lfits T.k_Lfits T.b_Lfits
 have F28:=fn0 P28 T.F_law sc_law c_law (sp:=spLaw) (by rintro _ _ _ _ ⟨_,rfl,_⟩;rfl) (r_law rfl rfl rfl rfl rfl rfl rfl rfl rfl rfl)
 exact F28
theorem all_fin{l:PySem.W.OpenLaw}{w:World}{fa f:Addr}{K:PySem.W.Frag}{mg:Str→Option Value}(hfa:mg "law"=some (.ref fa))(h:∃t:Adr,Tx K mg t∧t.a_law=f∧∀(s:Shared) (v:Value),BindsTo s t.d_law ⟨[v],[]⟩ [("_law_script",v)])
  :∃fd:FuncData,(∀(s:Shared) (v:Value),BindsTo s fd ⟨[v],[]⟩ [("_law_script",v)])∧∀base:Heap,K.In base→base.Ns mainGlobals mg→FnOk l.prog w K mg base (CX1 l.prog w) 33 fa fd ["_law_script"] (spF K spLaw):=by
 obtain⟨t,T,e,hb⟩:=h
 have e2:=hfa.symm.trans T.g_law
 cases e2
 exact⟨t.d_law,hb,fun base _ _=>ok_all T⟩
end K07
namespace Hand
open PySem PySem.Spec PyProof.Rows L2 L3 U K07
noncomputable def kf(n:Str)(i:Nat)(dV kV dc pm:Value)(an:Option Addr)(cd ct:Value):Obj:=⟨.type "function",none,.func (PySem.W.fnOf n n (defArgs (top i)) (defBody (top i)) (defScope (top i)) dV kV dc pm an cd ct),#[]⟩
noncomputable def kg(n:Str)(i:Nat)(m:Str)(t c:Nat):Obj:=kf n i .none .none .none (.str m t) none (.ref c) .none
noncomputable def kc(n:Str)(t:Nat)(l a:Int)(r:Nat)(x y:Int)(z:Nat):Obj:=⟨.type "code",none,.fields #[.str n t,.str n (t+1),.str "/claim/cut.py" (t+2),.int l 0,.int a 0,.int 0 0,.int 0 0,.int 3 0,.ref r,.bool true,.int x 0,.ref (r+1),.none,.ref (r+2),.ref (r+3),.ref (r+4),.int y 0,.int l 0,.str "/claim/cut.py" z],#[]⟩
noncomputable def ke(P:Params)(x:Str)(t:Nat)(v:Value):DictEntry:=⟨PyData.keyHash P x,.str x t,v⟩
abbrev kd:Value:= .type "dict"
abbrev kR(a:Nat):Value:= .ref a
abbrev kS(x:Str)(t:Nat):Value:= .str x t
noncomputable def KH(P:Params):PySem.W.Frag:=(nat_lit 2,⟨.none,none,.dict #[] 0,#[]⟩)::(nat_lit 3,⟨kd,none,.dict #[ke P "__name__" 165 (kS "law_unjump_k07_run_by_rows" 371),ke P "__doc__" 166 .none,ke P "__package__" 167 .none,ke P "__loader__" 168 (.builtin "__main__.__loader__#opaque"),ke P "__spec__" 169 .none,ke P "__annotations__" 170 (kR 6),ke P "__builtins__" 171 (kR 4),ke P "__file__" 173 (kS "/claim/cut.py" 172),ke P "__cached__" 174 .none,ke P "JumpError" 215 (kR 32),ke P "ByNought" 231 (kR 45),ke P "made" 242 (kR 54),ke P "quotient" 250 (kR 61),ke P "rest" 258 (kR 68),ke P "holds" 267 (kR 75),ke P "worth" 275 (kR 82),ke P "deed_of_sum" 288 (kR 89),ke P "deed_of_test" 300 (kR 96),ke P "run_from" 317 (kR 103),ke P "deed_of" 325 (kR 110),ke P "behind" 334 (kR 117),ke P "linked" 342 (kR 122),ke P "landings" 356 (kR 129),ke P "run" 370 (kR 137),ke P "_law_cell" 380 (kR 144),ke P "_law_mixed" 389 (kR 151),ke P "_law_names" 402 (kR 158),ke P "_law_great" 409 (kR 165),ke P "_law_operand" 418 (kR 172),ke P "_law_row" 433 (kR 179),ke P "_law_rows" 439 (kR 184),ke P "_law_memory" 450 (kR 191),ke P "_law_alike" 459 (kR 198),ke P "_law_same_memory" 468 (kR 205),ke P "_law_worth" 476 (kR 212),ke P "_law_sum" 485 (kR 219),ke P "_law_deed" 495 (kR 226),ke P "_law_run" 511 (kR 233),ke P "_law_fits" 519 (kR 240),ke P "law" 535 (kR 247)] 40,#[]⟩)::(nat_lit 22,⟨(.type "tuple"),none,.seq #[.none] 0,#[]⟩)::(nat_lit 28,⟨(.type "code"),none,.fields #[(.str "__init__" 201),(.str "JumpError.__init__" 202),(.str "/claim/cut.py" 203),(.int 4 0),(.int 2 0),(.int 0 0),(.int 0 0),(.int 3 0),(.ref 23),(.bool true),(.int 181 0),(.ref 24),.none,(.ref 25),(.ref 26),(.ref 27),(.int 206 0),(.int 4 0),(.str "/claim/cut.py" 207)],#[]⟩)::(nat_lit 29,{cls:=Value.type "function",data:=Data.func {name:=Str.ofString "__init__",qualname:=Str.ofString "JumpError.__init__",params:={posonlyargs:=[],args:=[{arg:=Str.ofString "self",annotation:=none,pos:={line:=4,col:=17,endLine:=4,endCol:=21}},{arg:=Str.ofString "row",annotation:=none,pos:={line:=4,col:=23,endLine:=4,endCol:=26}}],vararg:=none,kwonlyargs:=[],kw_defaults:=[],kwarg:=none,defaults:=[Expr.Constant Const.none 0 {line:=4,col:=27,endLine:=4,endCol:=31}]},body:=FuncBody.stmts [Stmt.Assign [(Expr.Name (Str.ofString "self") {line:=5,col:=8,endLine:=5,endCol:=12}).Attribute (Str.ofString "row") {line:=5,col:=8,endLine:=5,endCol:=16}] (Expr.Name (Str.ofString "row") {line:=5,col:=19,endLine:=5,endCol:=22}) {line:=5,col:=8,endLine:=5,endCol:=22}],scope:={kind:=ScopeKind.function,names:=[(Str.ofString "self",NameKind.local),(Str.ofString "row",NameKind.local)],isGenerator:=false,isCoroutine:=false},globals:=3,closure:=[],defaults:=Value.ref 22,kwdefaults:=Value.none,pyModule:=Value.str (Str.ofString "unjump.errors") 187,code:=Value.ref 28}})::(nat_lit 31,⟨kd,none,.dict #[ke P "__module__" 196 (kS "unjump.errors" 187),ke P "__firstlineno__" 200 (.int 2 199),ke P "__init__" 208 (kR 29),ke P "__static_attributes__" 210 (kR 30),ke P "__weakref__" 212 (kR 33),ke P "__doc__" 213 .none] 3,#[]⟩)::(nat_lit 32,{cls:=Value.type "type",data:=Data.cls {name:=Str.ofString "JumpError",bases:=[Value.type "ValueError"],mro:=[Value.ref 32,Value.type "ValueError",Value.type "Exception",Value.type "BaseException",Value.type "object"],ns:=31,qualname:=Str.ofString "JumpError",subclasses:=[Value.ref 45]},slots:=#[some (Value.ref 15),none,some (Value.str (Str.ofString "JumpError") 189),some (Value.str (Str.ofString "JumpError") 197),some (Value.builtin "ValueError.__new__"),some (Value.bool true)]})::(nat_lit 44,⟨kd,none,.dict #[ke P "__module__" 223 (kS "unjump.errors" 187),ke P "__firstlineno__" 227 (.int 6 226),ke P "__static_attributes__" 228 (kR 43),ke P "__doc__" 229 .none] 2,#[]⟩)::(nat_lit 45,{cls:=Value.type "type",data:=Data.cls {name:=Str.ofString "ByNought",bases:=[Value.ref 32],mro:=[Value.ref 45,Value.ref 32,Value.type "ValueError",Value.type "Exception",Value.type "BaseException",Value.type "object"],ns:=44,qualname:=Str.ofString "ByNought"},slots:=#[some (Value.ref 36),none,some (Value.str (Str.ofString "ByNought") 216),some (Value.str (Str.ofString "ByNought") 224),some (Value.builtin "ValueError.__new__"),some (Value.bool true)]})::(nat_lit 53,kc "made" 234 9 3 48 181 240 241)::(nat_lit 54,kg "made" 4 "unjump.sums" 232 53)::(nat_lit 60,kc "quotient" 243 21 2 55 181 248 249)::(nat_lit 61,kg "quotient" 5 "unjump.sums" 232 60)::(nat_lit 67,kc "rest" 251 25 2 62 181 256 257)::(nat_lit 68,kg "rest" 6 "unjump.sums" 232 67)::(nat_lit 74,kc "holds" 259 29 3 69 181 265 266)::(nat_lit 75,kg "holds" 7 "unjump.sums" 232 74)::(nat_lit 81,kc "worth" 268 33 2 76 181 273 274)::(nat_lit 82,kg "worth" 8 "unjump.sums" 232 81)::(nat_lit 88,kc "deed_of_sum" 276 37 5 83 181 286 287)::(nat_lit 89,kg "deed_of_sum" 9 "unjump.sums" 232 88)::(nat_lit 95,kc "deed_of_test" 289 41 4 90 181 298 299)::(nat_lit 96,kg "deed_of_test" 10 "unjump.sums" 232 95)::(nat_lit 102,kc "run_from" 303 46 4 97 181 315 316)::(nat_lit 103,kg "run_from" 12 "unjump.nodes" 301 102)::(nat_lit 109,kc "deed_of" 318 59 2 104 181 323 324)::(nat_lit 110,kg "deed_of" 13 "unjump.nodes" 301 109)::(nat_lit 116,kc "behind" 326 63 3 111 181 332 333)::(nat_lit 117,kg "behind" 14 "unjump.nodes" 301 116)::(nat_lit 121,⟨(.type "code"),none,.fields #[(.str "linked" 337),(.str "linked" 338),(.str "/claim/cut.py" 339),(.int 69 0),(.int 1 0),(.int 0 0),(.int 0 0),(.int 3 0),(.ref 118),(.bool true),(.int 181 0),(.ref 119),.none,.none,.none,(.ref 120),(.int 340 0),(.int 69 0),(.str "/claim/cut.py" 341)],#[]⟩)::(nat_lit 122,kg "linked" 16 "unjump.graphs" 335 121)::(nat_lit 128,kc "landings" 343 83 2 123 181 354 355)::(nat_lit 129,kg "landings" 17 "unjump.graphs" 335 128)::(nat_lit 130,⟨(.type "tuple"),none,.seq #[(.int 100 359)] 0,#[]⟩)::(nat_lit 136,kc "run" 360 97 3 131 181 368 369)::(nat_lit 137,kf "run" 19 (.ref 130) .none .none (.str "unjump.running" 357) none (.ref 136) .none)::(nat_lit 143,kc "_law_cell" 373 101 2 138 181 378 379)::(nat_lit 144,kg "_law_cell" 21 "law_unjump_k07_run_by_rows" 371 143)::(nat_lit 150,kc "_law_mixed" 381 105 2 145 181 387 388)::(nat_lit 151,kg "_law_mixed" 22 "law_unjump_k07_run_by_rows" 371 150)::(nat_lit 157,kc "_law_names" 390 108 1 152 181 400 401)::(nat_lit 158,kg "_law_names" 23 "law_unjump_k07_run_by_rows" 371 157)::(nat_lit 164,kc "_law_great" 403 119 1 159 181 407 408)::(nat_lit 165,kg "_law_great" 24 "law_unjump_k07_run_by_rows" 371 164)::(nat_lit 171,kc "_law_operand" 410 121 3 166 181 416 417)::(nat_lit 172,kg "_law_operand" 25 "law_unjump_k07_run_by_rows" 371 171)::(nat_lit 178,kc "_law_row" 419 127 4 173 181 431 432)::(nat_lit 179,kg "_law_row" 26 "law_unjump_k07_run_by_rows" 371 178)::(nat_lit 183,⟨(.type "code"),none,.fields #[(.str "_law_rows" 434),(.str "_law_rows" 435),(.str "/claim/cut.py" 436),(.int 140 0),(.int 3 0),(.int 0 0),(.int 0 0),(.int 3 0),(.ref 180),(.bool true),(.int 181 0),(.ref 181),.none,.none,.none,(.ref 182),(.int 437 0),(.int 140 0),(.str "/claim/cut.py" 438)],#[]⟩)::(nat_lit 184,kg "_law_rows" 27 "law_unjump_k07_run_by_rows" 371 183)::(nat_lit 190,kc "_law_memory" 440 152 2 185 181 448 449)::(nat_lit 191,kg "_law_memory" 28 "law_unjump_k07_run_by_rows" 371 190)::(nat_lit 197,kc "_law_alike" 451 161 2 192 181 457 458)::(nat_lit 198,kg "_law_alike" 29 "law_unjump_k07_run_by_rows" 371 197)::(nat_lit 204,kc "_law_same_memory" 460 176 2 199 181 466 467)::(nat_lit 205,kg "_law_same_memory" 30 "law_unjump_k07_run_by_rows" 371 204)::(nat_lit 211,kc "_law_worth" 469 183 2 206 181 474 475)::(nat_lit 212,kg "_law_worth" 31 "law_unjump_k07_run_by_rows" 371 211)::(nat_lit 218,kc "_law_sum" 477 187 3 213 181 483 484)::(nat_lit 219,kg "_law_sum" 32 "law_unjump_k07_run_by_rows" 371 218)::(nat_lit 225,kc "_law_deed" 486 199 2 220 181 493 494)::(nat_lit 226,kg "_law_deed" 33 "law_unjump_k07_run_by_rows" 371 225)::(nat_lit 232,kc "_law_run" 496 209 3 227 181 509 510)::(nat_lit 233,kg "_law_run" 34 "law_unjump_k07_run_by_rows" 371 232)::(nat_lit 239,kc "_law_fits" 512 238 2 234 181 517 518)::(nat_lit 240,kg "_law_fits" 35 "law_unjump_k07_run_by_rows" 371 239)::(nat_lit 246,kc "law" 520 244 1 241 181 533 534)::(nat_lit 247,kg "law" 36 "law_unjump_k07_run_by_rows" 371 246)::[]
noncomputable def qH:Program:={PySem.Challenge.pw_unjump_k07_run_by_rows with main:={PySem.Challenge.pw_unjump_k07_run_by_rows.main with body:=[top 36]}}
noncomputable def lH:List Str:="JumpError"::"ByNought"::"made"::"quotient"::"rest"::"holds"::"worth"::"deed_of_sum"::"deed_of_test"::"run_from"::"deed_of"::"behind"::"linked"::"landings"::"run"::"_law_cell"::"_law_mixed"::"_law_names"::"_law_great"::"_law_operand"::"_law_row"::"_law_rows"::"_law_memory"::"_law_alike"::"_law_same_memory"::"_law_worth"::"_law_sum"::"_law_deed"::"_law_run"::"_law_fits"::[]
noncomputable def aH:List Addr:=2::3::22::28::29::31::32::44::45::53::54::60::61::67::68::74::75::81::82::88::89::95::96::102::103::109::110::116::117::121::122::128::129::130::136::137::143::144::150::151::157::158::164::165::171::172::178::179::183::184::190::191::197::198::204::205::211::212::218::219::225::226::232::233::239::240::246::247::[]
theorem eH(P:Params):aH=(KH P).map (·.1):=by kernel_rfl
set_option maxHeartbeats 0 in
theorem hlH:PySem.W.LeftO PySem.Challenge.pw_unjump_k07_run_by_rows qH lH (fun s=>PySem.W.xlAt qH [] s&&PySem.W.recOk [] s) (PySem.W.Hook.obs (PySem.W.kHook KH aH eH)) (PySem.W.Hook.val (PySem.W.kHook KH aH eH)) 2956:=by intro w;kernel_rfl
end Hand
open PySem PySem.W PyProof.Rows
set_option maxRecDepth 100000 in
set_option maxHeartbeats 0 in
theorem PySem.Challenge.cw_unjump_k07_run_by_rows_holds : PySem.Challenge.rw_unjump_k07_run_by_rows.Holds := by
 w_on;o_law;refine holds_open (q:=Hand.qH) (loose:=Hand.lH) (Xt:=fun s=>xlAt Hand.qH [] s&&recOk [] s) (XP:=XL Hand.qH []) (Yf:=Hook.obs (kHook Hand.KH Hand.aH Hand.eH)) (Ya:=Hook.val (kHook Hand.KH Hand.aH Hand.eH)) (YP:=Hook.says (kHook Hand.KH Hand.aH Hand.eH)) (N:=2956) Hand.hlH (Hook.of _) (Hook.keeps _) (fun s e=>xl_of s (Bool.and_eq_true_iff.mp e).1) XL.keeps (by rfl) (by rfl) (by rfl) (fun s e=>recFacts_of (Bool.and_eq_true_iff.mp e).2) (by rfl) (by first | assumption | decide+kernel) (by decide+kernel) ⟨rfl,rfl,rfl,rfl,rfl,by decide+kernel⟩ ?hw ?hc;(case hw=>w_witness2)
 k_fill
 refine U.law_walk (l:=PySem.Challenge.rw_unjump_k07_run_by_rows) (k:=33) (x:="_law_script") rfl rfl ⟨rfl,by decide,by decide⟩ (fun w h Y=>PySem.W.kIn_of Y) ?F
 case F=>
  intro w mg fa h KX G hmg
  refine' K07.all_fin hmg (K07.tx_mk KX G ?a0 ?l0 ?c0 ?k0 ?a1 ?l1 ?c1 ?k1 ?a2 ?l2 ?c2 ?k2 ?a3 ?l3 ?c3 ?k3 ?a4 ?l4 ?c4 ?k4 ?a5 ?l5 ?c5 ?k5 ?a6 ?l6 ?c6 ?k6 ?a7 ?l7 ?c7 ?k7 ?a8 ?l8 ?c8 ?k8 ?a9 ?l9 ?c9 ?k9 ?a10 ?l10 ?c10 ?k10 ?a11 ?l11 ?c11 ?k11 ?a12 ?l12 ?c12 ?k12 ?a13 ?l13 ?c13 ?k13 ?a14 ?l14 ?c14 ?k14 ?a15 ?l15 ?c15 ?k15 ?a16 ?l16 ?c16 ?k16 ?a17 ?l17 ?c17 ?k17 ?a18 ?l18 ?c18 ?k18 ?a19 ?l19 ?c19 ?k19 ?a20 ?l20 ?c20 ?k20 ?a21 ?l21 ?c21 ?k21 ?a22 ?l22 ?c22 ?k22 ?a23 ?l23 ?c23 ?k23 ?a24 ?l24 ?c24 ?k24 ?a25 ?l25 ?c25 ?k25 ?a26 ?l26 ?c26 ?k26 ?a27 ?l27 ?c27 ?k27 ?a28 ?l28 ?c28 ?k28 ?z0 ?z1 ?z2 ?z3 ?z4 ?z5 ?z6 ?z7 ?z8 ?z9 ?n0 ?n1 ?xl0 ?xa0 ?xb0 ?xc0 ?xd0 ?xe0 ?xf0 ?xg0 ?xh0 ?xi0 ?xj0 ?xk0 ?xm0 ?xn0 ?xo0 ?y0_0 ?y0_1 ?y0 ?w0 ?w1 ?w2 ?w3 ?w4 ?il ?ic ?it ?dl12)
  (case a0=>k_is);(case l0=>k_is);(case c0=>k_is);(case k0=>k_is)
  (case a1=>k_is);(case l1=>k_is);(case c1=>k_is);(case k1=>k_is)
  (case a2=>k_is);(case l2=>k_is);(case c2=>k_is);(case k2=>k_is)
  (case a3=>k_is);(case l3=>k_is);(case c3=>k_is);(case k3=>k_is)
  (case a4=>k_is);(case l4=>k_is);(case c4=>k_is);(case k4=>k_is)
  (case a5=>k_is);(case l5=>k_is);(case c5=>k_is);(case k5=>k_is)
  (case a6=>k_is);(case l6=>k_is);(case c6=>k_is);(case k6=>k_is)
  (case a7=>k_is);(case l7=>k_is);(case c7=>k_is);(case k7=>k_is)
  (case a8=>k_is);(case l8=>k_is);(case c8=>k_is);(case k8=>k_is)
  (case a9=>k_is);(case l9=>k_is);(case c9=>k_is);(case k9=>k_is)
  (case a10=>k_is);(case l10=>k_is);(case c10=>k_is);(case k10=>k_is)
  (case a11=>k_is);(case l11=>k_is);(case c11=>k_is);(case k11=>k_is)
  (case a12=>k_is);(case l12=>k_is);(case c12=>k_is);(case k12=>k_is)
  (case a13=>k_is);(case l13=>k_is);(case c13=>k_is);(case k13=>k_is)
  (case a14=>k_is);(case l14=>k_is);(case c14=>k_is);(case k14=>k_is)
  (case a15=>k_is);(case l15=>k_is);(case c15=>k_is);(case k15=>k_is)
  (case a16=>k_is);(case l16=>k_is);(case c16=>k_is);(case k16=>k_is)
  (case a17=>k_is);(case l17=>k_is);(case c17=>k_is);(case k17=>k_is)
  (case a18=>k_is);(case l18=>k_is);(case c18=>k_is);(case k18=>k_is)
  (case a19=>k_is);(case l19=>k_is);(case c19=>k_is);(case k19=>k_is)
  (case a20=>k_is);(case l20=>k_is);(case c20=>k_is);(case k20=>k_is)
  (case a21=>k_is);(case l21=>k_is);(case c21=>k_is);(case k21=>k_is)
  (case a22=>k_is);(case l22=>k_is);(case c22=>k_is);(case k22=>k_is)
  (case a23=>k_is);(case l23=>k_is);(case c23=>k_is);(case k23=>k_is)
  (case a24=>k_is);(case l24=>k_is);(case c24=>k_is);(case k24=>k_is)
  (case a25=>k_is);(case l25=>k_is);(case c25=>k_is);(case k25=>k_is)
  (case a26=>k_is);(case l26=>k_is);(case c26=>k_is);(case k26=>k_is)
  (case a27=>k_is);(case l27=>k_is);(case c27=>k_is);(case k27=>k_is)
  (case a28=>k_is);(case l28=>k_is);(case c28=>k_is);(case k28=>k_is)
  (case z0=>k_is);(case z1=>k_is);(case z2=>k_is);(case z3=>k_is);(case z4=>k_is);(case z5=>k_is);(case z6=>k_is);(case z7=>k_is);(case z8=>k_is);(case z9=>k_is)
  (case n0=>k_is);(case n1=>k_is);(case xl0=>k_is);(case xa0=>k_is);(case xb0=>k_is);(case xc0=>k_is);(case xd0=>k_is);(case xe0=>k_is);(case xf0=>k_is);(case xg0=>k_is);(case xh0=>k_is);(case xi0=>k_is);(case xj0=>k_is);(case xk0=>k_is);(case xm0=>k_is);(case xn0=>k_is);(case xo0=>k_is);(case y0_0=>kernel_rfl);(case y0_1=>kernel_rfl);(case y0=>kernel_rfl);(case w0=>k_is);(case w1=>k_is);(case w2=>k_is);(case w3=>k_is);(case w4=>k_is);(case il=>k_is);(case ic=>k_is);(case it=>k_is);(case dl12=>k_is)
