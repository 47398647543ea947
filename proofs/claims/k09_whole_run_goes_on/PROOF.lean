import PyProof.Rows.All
import Wide.All
import OpenK.AllK
import Wide.FinOn
import Lean
import PyProof.EqAt
import PyProof.EqKinds
import PyProof.TupleCall
import PyProof.CompFree
import PyProof.StationsW
import PyProof.ExcClass3
import PyProof.Commute
import OpenK.KGet
import OpenK.KMeth
import PyProof.ExcArgs
import PyProof.ZipIter
import PyProof.ListNew
import PyProof.EnumMake
import PyProof.EnumStmt
import KE.KRevSl
import PyProof.WalkInts
import PyProof.Rows.MinMaxN
import PyProof.AttrMissHeap
import PyProof.DictList
import PyProof.DictUpdate
import KE.KDictOf
import PyProof.DictWalks
import PyProof.Conv_int_bool
import PySem.Challenge.RW_unjump_k09_whole_run_goes_on
set_option Elab.async false
set_option linter.all false
set_option maxRecDepth 100000
set_option genSizeOf false
set_option compiler.extract_closed false
namespace L2
open PySem PySem.Spec PyProof.Rows
noncomputable abbrev Key:=Sum Int Str
noncomputable def Bo:Key→Value→Bool
 | .inl k,v=>Value.isInt k v
 | .inr x,v=>Value.isStrOf x v
noncomputable def keyH(w:World):Key→Int
 | .inl k=>hashInt k
 | .inr x=>hashStr w x
theorem Ye:∀{k:Key} {v:Value},Bo k v=true→(∃i t,k=Sum.inl i∧v=Value.int i t)∨(∃x t,k=Sum.inr x∧v=Value.str x t)
 | .inl i,v,h=>by
  obtain⟨t,e⟩:=Value.isInt_shape (k:=i) (v:=v) h
  exact .inl ⟨i,t,rfl,e⟩
 | .inr x,v,h=>by
  obtain⟨t,e⟩:=Value.isStrOf_shape (x:=x) (v:=v) h
  exact .inr ⟨x,t,rfl,e⟩
theorem Z65(i:Int)(t:Tok):Bo (.inl i) (.int i t)=true:=by simp[Bo,Value.isInt]
theorem Z02(x:Str)(t:Tok):Bo (.inr x) (.str x t)=true:=by simp[Bo,Value.isStrOf]
theorem Zz2(a b:Int):decide ((Sum.inl a:Key)=Sum.inl b)=(a==b):=by
 by_cases e:a=b
 ·subst e;simp
 ·have h:¬(Sum.inl a:Key)=Sum.inl b:=fun q=>e (Sum.inl.inj q)
  rw[decide_eq_false h]
  exact(beq_eq_false_iff_ne.mpr e).symm
theorem Y55(a b:Str):decide ((Sum.inr a:Key)=Sum.inr b)=decide (a=b):=by
 by_cases e:a=b
 ·subst e;simp
 ·have h:¬(Sum.inr a:Key)=Sum.inr b:=fun q=>e (Sum.inr.inj q)
  rw[decide_eq_false h,decide_eq_false e]
theorem Zx7(a:Int)(b:Str):decide ((Sum.inl a:Key)=Sum.inr b)=false:=decide_eq_false (fun q=>nomatch q)
theorem Y18(a:Str)(b:Int):decide ((Sum.inr a:Key)=Sum.inl b)=false:=decide_eq_false (fun q=>nomatch q)
noncomputable def Y6(prog:Program)(w:World):PySem.KeyKind prog w Key where
 is:=Bo
 hash:=keyH w
 inj:=fun v a b ha hb=>by
  rcases Ye ha with⟨i,t,rfl,rfl⟩ | ⟨x,t,rfl,rfl⟩
  ·rcases Ye hb with⟨j,u,rfl,e⟩ | ⟨y,u,rfl,e⟩
   ·injection e with e1 _;rw[e1]
   ·exact nomatch e
  ·rcases Ye hb with⟨j,u,rfl,e⟩ | ⟨y,u,rfl,e⟩
   ·exact nomatch e
   ·injection e with e1 _;rw[e1]
 byValue:=fun k v h=>by
  rcases Ye h with⟨i,t,rfl,rfl⟩ | ⟨x,t,rfl,rfl⟩<;>rfl
 pyHash:=fun hv h=>by
  rcases Ye hv with⟨i,t,rfl,rfl⟩ | ⟨x,t,rfl,rfl⟩
  ·exact wpAny_pyHash_int h
  ·exact wpAny_pyHash_str h
 eqBool:=fun hu hv h=>by
  rcases Ye hu with⟨i,t,rfl,rfl⟩ | ⟨x,t,rfl,rfl⟩
  ·rcases Ye hv with⟨j,u,rfl,rfl⟩ | ⟨y,u,rfl,rfl⟩
   ·rw[Zz2] at h;exact wpAny_eqBool_int h
   ·rw[Zx7] at h;exact SeqAt.EqAt.int_str i t y u _ _ _ _ h
  ·rcases Ye hv with⟨j,u,rfl,rfl⟩ | ⟨y,u,rfl,rfl⟩
   ·rw[Y18] at h;exact SeqAt.EqAt.str_int x t j u _ _ _ _ h
   ·rw[Y55] at h;exact wpAny_eqBool_str h
 «strs»:=fun k x t v h=>by
  rcases Ye h with⟨i,u,rfl,e⟩ | ⟨y,u,rfl,e⟩
  ·exact nomatch e
  ·injection e with e1 _
   subst e1
   cases v<;>rfl
theorem G5(prog:Program)(w:World)(i:Int)(t:Tok):(Y6 prog w).is (.inl i) (.int i t)=true:=Z65 i t
theorem Gp(prog:Program)(w:World)(x:Str)(t:Tok):(Y6 prog w).is (.inr x) (.str x t)=true:=Z02 x t
inductive V where
 | non | bl (b:Bool) | int (i:Int) | str (x:Str) | byt (b:Array UInt8) | flt (b:UInt64) | ref (a:Addr) | ty (n:String)
 deriving DecidableEq
def RelV:V→Value→Prop
 | .non,u=>u=Value.none
 | .bl b,u=>u=Value.bool b
 | .int i,u=>∃t,u=Value.int i t
 | .str x,u=>∃t,u=Value.str x t
 | .byt b,u=>∃t,u=Value.bytes b t
 | .flt b,u=>∃t,u=Value.float b t
 | .ref a,u=>u=Value.ref a
 | .ty n,u=>u=Value.type n
abbrev Vals:List V→List Value→Prop:=Paired RelV
theorem Vals.length{xs:List V}{us:List Value}(r:Vals xs us):xs.length=us.length:=Paired.length r
theorem Vals.get:∀{xs:List V} {us:List Value} {i:Nat} {x:V},Vals xs us→xs[i]?=some x→∃u,us[i]?=some u∧RelV x u
 | _,_,_,_,.nil,e=>by simp at e
 | _,_,0,_,.cons r _,e=>by simp at e;subst e;exact⟨_,rfl,r⟩
 | _,_,i+1,x,.cons _ t,e=>by
  obtain⟨u,h1,h2⟩:=Vals.get (i:=i) (x:=x) t (by simpa using e)
  exact⟨u,by simpa using h1,h2⟩
theorem Vals.set{x:V}{u:Value}(r:RelV x u):∀{xs:List V} {us:List Value} (i:Nat),Vals xs us→Vals (xs.set i x) (us.set i u)
 | _,_,_,.nil=> .nil
 | _,_,0,.cons _ t=> .cons r t
 | _,_,i+1,.cons q t=> .cons q (Vals.set r i t)
theorem Vals.append:∀{xs ys:List V} {us ws:List Value},Vals xs us→Vals ys ws→Vals (xs++ys) (us++ws)
 | _,_,_,_,.nil,s=>s
 | _,_,_,_,.cons r t,s=> .cons r (Vals.append t s)
theorem Vals.take:∀{xs:List V} {us:List Value} (n:Nat),Vals xs us→Vals (xs.take n) (us.take n)
 | _,_,0,_=> .nil
 | _,_,_+1,.nil=> .nil
 | _,_,n+1,.cons r t=> .cons r (Vals.take n t)
theorem Vals.drop:∀{xs:List V} {us:List Value} (n:Nat),Vals xs us→Vals (xs.drop n) (us.drop n)
 | _,_,0,r=>r
 | _,_,_+1,.nil=> .nil
 | _,_,n+1,.cons _ t=>Vals.drop n t
def RelO:Option V→Option Value→Prop
 | some v,some u=>RelV v u
 | none,none=>True
 | _,_=>False
def KV{κ:Type}:List (κ×V)→List (κ×Value)→Prop:=Paired fun(p:κ×V) (q:κ×Value)=>p.1=q.1∧RelV p.2 q.2
noncomputable def kV:Key→V
 | .inl i=> .int i
 | .inr x=> .str x
inductive HO where
 | lst (xs:List V)
 | tup (xs:List V)
 | dK (kvs:List (Key×V)) | dT (kvs:List (List Key×V))
 | set (S:Int→Bool) (n:Nat)
 | ins (C dx:Addr) (fs:List (Str×V))
 | own (x:Addr)
 | xd (fs:List (Str×V))
 | met (f x:Addr)
 | rng (lo hi:Int)
 | frz (o:Obj) (u:HO)
 | tbl (ps:Array Value)
 | ext (φ:Heap→Prop)
noncomputable abbrev Hp:=Addr→Option HO
noncomputable def upd(H:Hp)(a:Addr)(o:HO):Hp:=fun b=>if b=a then some o else H b
theorem Zv{H:Hp}{a:Addr}{o:HO}:upd H a o a=some o:=by unfold upd;rw[if_pos rfl]
theorem Z9{H:Hp}{a b:Addr}{o:HO}(h:b≠a):upd H a o b=H b:=by unfold upd;rw[if_neg h]
theorem Y61{H:Hp}{a b:Addr}{o u:HO}(h:H a=some o)(h':H b=some u)(d:o≠u):a≠b:=by
 intro e;subst e;rw[h] at h';exact d (Option.some.inj h')
theorem W6{H:Hp}{a b:Addr}{o:HO}(h:H a=some o)(h':H b=none):a≠b:=by
 intro e;subst e;rw[h] at h';cases h'
section
variable(P:Program)(w:World)
def Yu(H:Hp)(h:Heap)(a:Addr):HO→Prop
 | .lst xs=>xs.length≤sizeLine∧∃(its:List Value) (n:Nat),Vals xs its∧h.get? a=some {cls:= .type "list",data:= .seq its.toArray n}
 | .tup xs=>xs.length≤sizeLine∧∃its:List Value,Vals xs its∧IsTup h a its.toArray
 | .dK kvs=>kvs.length≤sizeLine∧(a==sysModules)=false∧∃vs,KV kvs vs∧h.DictOf (Y6 P w) a vs
 | .dT kvs=>kvs.length≤sizeLine∧(a==sysModules)=false∧∃xs:List (List Key×Addr×Value),
   Paired (fun(p:List Key×V) (q:List Key×Addr×Value)=>p.1=q.1∧H q.2.1=some (.tup (p.1.map kV))∧RelV p.2 q.2.2) kvs xs∧
   ∃o es ep,h.get? a=some o∧o.ExactDict∧o.data= .dict es ep∧es.toList=xs.map (entryOfKey (tupleKind (Y6 P w)))∧(xs.map (·.1)).Nodup
 | .set S n=>h.SetOf (intKind P w) a S n
 | .ins C dx fs=>H dx=some (.own a)∧fs.length≤1000∧dx≠a∧h.get? a=some (PySem.W.instObj C dx)∧
   ∃mA,h.Ns1 dx mA∧(∀f,RelO (fs.lookup f) (mA f))∧PySem.Within mA (fs.map (·.1))
 | .own _=>∃o,h.get? a=some o
 | .xd fs=>∃mA,h.Ns1 a mA∧∀f,RelO (fs.lookup f) (mA f)
 | .rng lo hi=>∃t u v,h.get? a=some {cls:= .type "range",data:= .fields #[.int lo t,.int hi u,.int 1 v]}
 | .frz o u=>h.get? a=some o∧Yu H h a u
 | .tbl ps=>h.get? a=some {cls:= .none,data:= .fields ps}
 | .met f x=>h.get? a=some (PySem.W.methodObj (.ref f) (.ref x))
 | .ext φ=>φ h∧(∃o,h.get? a=some o)∧∀h1 h2:Heap,φ h1→(∀o,h1.get? a=some o→h2.get? a=some o)→φ h2
def HOk(H:Hp)(h:Heap):Prop:=∀a o,H a=some o→Yu P w H h a o
end
section
variable{P:Program}{w:World}{H H':Hp}{h h':Heap}{a:Addr}{o:HO}
theorem Yu.lt(x:Yu P w H h a o):a<h.objs.size:=by
 cases o with
 | lst xs=>obtain⟨_,_,_,_,e⟩:=x;exact Heap.lt_size e
 | tup xs=>obtain⟨_,_,_,p⟩:=x;exact p.lt
 | dK kvs=>obtain⟨_,_,_,_,o,_,_,e,_⟩:=x;exact Heap.lt_size e
 | dT kvs=>obtain⟨_,_,_,_,o,_,_,e,_⟩:=x;exact Heap.lt_size e
 | set S n=>obtain⟨o,_,_,_,e,_⟩:=x;exact Heap.lt_size e
 | ins C dx fs=>obtain⟨_,_,_,e,_⟩:=x;exact Heap.lt_size e
 | own y=>obtain⟨_,e⟩:=x;exact Heap.lt_size e
 | xd fs=>obtain⟨_,⟨_,_,_,e,_⟩,_⟩:=x;exact Heap.lt_size e
 | rng lo hi=>obtain⟨_,_,_,e⟩:=x;exact Heap.lt_size e
 | frz ob u=>obtain⟨e,_⟩:=x;exact Heap.lt_size e
 | tbl ps=>exact Heap.lt_size (show h.get? a=some _ from x)
 | met f y=>exact Heap.lt_size (show h.get? a=some _ from x)
 | ext φ=>obtain⟨_,⟨_,e⟩,_⟩:=x;exact Heap.lt_size e
theorem Paired.mapP{α β:Type}{F G:α→β→Prop}:∀{l₁:List α} {l₂:List β},Paired F l₁ l₂→(∀a b,F a b→G a b)→Paired G l₁ l₂
 | _,_,.nil,_=> .nil
 | _,_,.cons r t,f=> .cons (f _ _ r) (Paired.mapP t f)
theorem Yu.stay(x:Yu P w H h a o)(k:∀b u,(b=a∨H b=some (.own a))→h.get? b=some u→h'.get? b=some u)
  (ho:∀b,H b=some (.own a)→H' b=some (.own a)) (ht:∀b xs,H b=some (.tup xs)→H' b=some (.tup xs)):Yu P w H' h' a o:=by
 induction o with
 | lst xs=>obtain⟨z,its,n,r,e⟩:=x;exact⟨z,its,n,r,k _ _ (.inl rfl) e⟩
 | tup xs=>obtain⟨z,its,r,ob,e,c⟩:=x;exact⟨z,its,r,ob,k _ _ (.inl rfl) e,c⟩
 | dK kvs=>obtain⟨z,y,vs,r,ob,es,ep,e,c⟩:=x;exact⟨z,y,vs,r,ob,es,ep,k _ _ (.inl rfl) e,c⟩
 | dT kvs=>
  obtain⟨z,y,xs,r,ob,es,ep,e,c⟩:=x
  exact⟨z,y,xs,Paired.mapP r fun p q z=>⟨z.1,ht _ _ z.2.1,z.2.2⟩,ob,es,ep,k _ _ (.inl rfl) e,c⟩
 | set S n=>obtain⟨ob,es,ep,t,e,c⟩:=x;exact⟨ob,es,ep,t,k _ _ (.inl rfl) e,c⟩
 | ins C dx fs=>
  obtain⟨d,z,ne,e,mA,⟨od,es,ep,e2,c⟩,r⟩:=x
  exact⟨ho _ d,z,ne,k _ _ (.inl rfl) e,mA,⟨od,es,ep,k _ _ (.inr d) e2,c⟩,r⟩
 | own y=>obtain⟨ob,e⟩:=x;exact⟨ob,k _ _ (.inl rfl) e⟩
 | xd fs=>obtain⟨mA,⟨od,es,ep,e,c⟩,r⟩:=x;exact⟨mA,⟨od,es,ep,k _ _ (.inl rfl) e,c⟩,r⟩
 | rng lo hi=>obtain⟨t,u,v,e⟩:=x;exact⟨t,u,v,k _ _ (.inl rfl) e⟩
 | frz ob u ih=>obtain⟨e,q⟩:=x;exact⟨k _ _ (.inl rfl) e,ih q⟩
 | tbl ps=>
  have e:h.get? a=some {cls:= .none,data:= .fields ps}:=x
  show h'.get? a=some {cls:= .none,data:= .fields ps}
  exact k a _ (.inl rfl) e
 | met f y=>
  have e:h.get? a=some (PySem.W.methodObj (.ref f) (.ref y)):=x
  show h'.get? a=some (PySem.W.methodObj (.ref f) (.ref y))
  exact k a _ (.inl rfl) e
 | ext φ=>obtain⟨p,⟨o,e⟩,st⟩:=x;exact⟨st _ _ p fun o q=>k _ _ (.inl rfl) q,⟨o,k _ _ (.inl rfl) e⟩,st⟩
theorem HOk.lt(x:HOk P w H h)(e:H a=some o):a<h.objs.size:=(x a o e).lt
theorem HOk.fresh(x:HOk P w H h)(e:h.objs.size≤a):H a=none:=by
 cases q:H a with
 | none=>rfl
 | some u=>exact absurd (Nat.lt_of_lt_of_le (x.lt q) e) (Nat.lt_irrefl _)
theorem HOk.kept(x:HOk P w H h)(k:∀b u,h.get? b=some u→h'.get? b=some u):HOk P w H h':=fun a o e=>
 (x a o e).stay (fun b u _ q=>k b u q) (fun _ q=>q) fun _ _ q=>q
theorem HOk.laid(x:HOk P w H h)(k:∀b u,h.get? b=some u→h'.get? b=some u)(hp:h.objs.size≤a)(new:Yu P w (upd H a o) h' a o):HOk P w (upd H a o) h':=fun b u e=>by
 have hn:=x.fresh hp
 by_cases hb:b=a
 ·subst hb;rw[Zv] at e;cases e;exact new
 ·rw[Z9 hb] at e
  exact(x b u e).stay (fun c v _ q=>k c v q) (fun c q=>by rw[Z9 (W6 q hn)];exact q) fun c xs q=>by rw[Z9 (W6 q hn)];exact q
end
def Rd(H:Hp)(a:Addr)(u:HO):Prop:=H a=some u∨∃o,H a=some (.frz o u)
theorem Rd.of{H:Hp}{a:Addr}{u:HO}(h:H a=some u):Rd H a u:= .inl h
theorem Rd.ok{P:Program}{w:World}{H:Hp}{h:Heap}{a:Addr}{u:HO}(r:Rd H a u)(x:HOk P w H h):Yu P w H h a u:=by
 rcases r with r | ⟨o,r⟩
 ·exact x a u r
 ·obtain⟨_,q⟩:=x a _ r
  exact q
def Mut:Option HO→Prop
 | some (.lst _)=>True
 | some (.dK _)=>True
 | some (.dT _)=>True
 | some (.set _ _)=>True
 | some (.ins _ _ _)=>True
 | some (.ext _)=>True
 | _=>False
section
variable{P:Program}{w:World}{H:Hp}{h h':Heap}{x e:Addr}{o':HO}
theorem HOk.write(ok:HOk P w H h)(mu:Mut (H x))(he:e=x∨H e=some (.own x))(k:∀b u,b≠e→h.get? b=some u→h'.get? b=some u)(heo:∃u,h'.get? e=some u)
  (new:Yu P w (upd H x o') h' x o'):HOk P w (upd H x o') h':=fun b u q=>by
 have nown:∀c y,H c=some (.own y)→c≠x:=fun c y r z=>by subst z;rw[r] at mu;exact mu
 have ntup:∀c xs,H c=some (.tup xs)→c≠x:=fun c xs r z=>by subst z;rw[r] at mu;exact mu
 by_cases hb:b=x
 ·subst hb;rw[Zv] at q;cases q;exact new
 ·rw[Z9 hb] at q
  by_cases hbe:b=e
  ·have q':H b=some (.own x):=by
    rcases he with z | z
    ·exact absurd (hbe.trans z) hb
    ·rw[hbe];exact z
   rw[q] at q';cases q'
   obtain⟨v,hv⟩:=heo
   exact⟨v,by rw[hbe];exact hv⟩
  ·refine(ok b u q).stay (fun c v hc r=>k c v ?_ r) (fun c r=>by rw[Z9 (nown c b r)];exact r) fun c xs r=>by rw[Z9 (ntup c xs r)];exact r
   rcases hc with rfl | hc
   ·exact hbe
   ·rintro rfl
    rcases he with z | z
    ·exact nown c b hc z
    ·rw[hc] at z;cases z;exact hb rfl
end
structure Un(fs ex:List Addr)(H H':Hp)(h h':Heap):Prop where
 keep:∀b o,h.get? b=some o→H b=none→b∉fs→b∉ex→h'.get? b=some o
 slot:∀b o,h.get? b=some o→H b=none→b∈fs→b∉ex→∃sl,h'.get? b=some {o with slots:=sl}
 free:∀b o,h.get? b=some o→H b=none→b∉ex→H' b=none
 there:∀b o,h.get? b=some o→b∉ex→∃o',h'.get? b=some o'
 tups:∀b xs,H b=some (.tup xs)→H' b=some (.tup xs)
 frzs:∀b o u,H b=some (.frz o u)→H' b=some (.frz o u)
 tbls:∀b ps,H b=some (.tbl ps)→∃more,H' b=some (.tbl (ps++more))
section
variable{fs fs' ex ex':List Addr}{H H1 H2:Hp}{h h1 h2 h':Heap}{a x e:Addr}{o:HO}
theorem Un.any(u:Un fs ex H H1 h h1){b:Addr}{ob:Obj}(q:h.get? b=some ob)(n:H b=none)(hx:b∉ex):∃sl,h1.get? b=some {ob with slots:=sl}:=by
 by_cases hb:b∈fs
 ·exact u.slot b ob q n hb hx
 ·exact⟨ob.slots,u.keep b ob q n hb hx⟩
theorem Un.kept(k:∀b u,h.get? b=some u→h'.get? b=some u):Un fs ex H H h h':=
 ⟨fun b ob q _ _ _=>k b ob q,fun b ob q _ _ _=>⟨ob.slots,k b ob q⟩,fun _ _ _ n _=>n,fun b ob q _=>⟨ob,k b ob q⟩,fun _ _ q=>q,fun _ _ _ q=>q,fun _ ps q=>⟨#[],by rw[q];simp⟩⟩
theorem Un.refl:Un fs ex H H h h:=Un.kept fun _ _ q=>q
theorem Un.laid(k:∀b u,h.get? b=some u→h'.get? b=some u)(hp:h.objs.size≤a)(hn:H a=none):Un fs ex H (upd H a o) h h' where
 keep:=fun b u q _ _ _=>k b u q
 slot:=fun b u q _ _ _=>⟨u.slots,k b u q⟩
 free:=fun b u q n _=>by rw[Z9 (Nat.ne_of_lt (Nat.lt_of_lt_of_le (Heap.lt_size q) hp))];exact n
 there:=fun b u q _=>⟨u,k b u q⟩
 tups:=fun b xs q=>by rw[Z9 (W6 q hn)];exact q
 frzs:=fun b u xs q=>by rw[Z9 (W6 q hn)];exact q
 tbls:=fun b ps q=>⟨#[],by rw[Z9 (W6 q hn),q];simp⟩
theorem Un.write(mu:Mut (H x))(he:e=x∨H e=some (.own x))(k:∀b u,b≠e→h.get? b=some u→h'.get? b=some u)(heo:∃u,h'.get? e=some u):Un fs ex H (upd H x o) h h':=by
 have hx:∀b,H b=none→b≠x:=fun b n z=>by subst z;rw[n] at mu;exact mu
 have hb:∀b,H b=none→b≠e:=fun b n z=>by
  subst z
  rcases he with r | r
  ·exact hx b n r
  ·rw[n] at r;cases r
 have hm:∀b u,H b=some u→¬Mut (some u)→b≠x:=fun b u q nm z=>by subst z;rw[q] at mu;exact nm mu
 refine⟨fun b u q n _ _=>k b u (hb b n) q,fun b u q n _ _=>⟨u.slots,k b u (hb b n) q⟩,fun b u q n _=>by rw[Z9 (hx b n)];exact n,fun b u q _=>?_,
  fun b xs q=>by rw[Z9 (hm b _ q fun z=>z)];exact q,fun b u xs q=>by rw[Z9 (hm b _ q fun z=>z)];exact q,fun b ps q=>⟨#[],by rw[Z9 (hm b _ q fun z=>z),q];simp⟩⟩
 by_cases hbe:b=e
 ·subst hbe;exact heo
 ·exact⟨u,k b u hbe q⟩
end
noncomputable def trk(h:Heap)(H:Hp):List Addr:=(List.range h.objs.size).filter fun a=>(H a).isSome
noncomputable def hidT(h:Heap)(H:Hp):Heap:=PySem.W.hideAll h (trk h H)
theorem Z53(h:Heap)(H:Hp):(hidT h H).objs.size=h.objs.size:=PySem.W.hideAll_size _ _
theorem Zk1{h:Heap}{H:Hp}{b:Addr}{o:Obj}(e:h.get? b=some o)(n:H b=none):(hidT h H).get? b=some o:=
 PySem.W.hideAll_get _ e fun hm=>by
  have q:(H b).isSome=true:=(List.mem_filter.mp hm).2
  rw[n] at q;simp at q
theorem Zo6{h:Heap}{H:Hp}{b:Addr}{o:Obj}(e:(hidT h H).get? b=some o):h.get? b=some o∧H b=none:=by
 have e':h.get? b=some o:=PySem.W.of_hideAll (trk h H) e
 refine⟨e',?_⟩
 cases q:H b with
 | none=>rfl
 | some x=>
  have hm:b∈trk h H:=List.mem_filter.mpr ⟨List.mem_range.mpr (Heap.lt_size e'),by simp[q]⟩
  have z:(hidT h H).get? b=none:=PySem.W.hideAll_none (trk h H) hm
  rw[z] at e;cases e
noncomputable def Zo0(g h:Heap)(L:Addr):List (Addr×Obj):=(List.range h.objs.size).filterMap fun a=>if a=L∨(g.get? a).isSome=true then none else(h.get? a).map fun o=>(a,o)
noncomputable def rest(g h:Heap)(L d:Addr):List (Addr×Obj):=(Zo0 g h L).filter fun p=>decide (p.1≠d)
structure Mod(K:PySem.W.Frag)(mg:Str→Option Value)(base:Heap):Prop where
 kin:K.In base
 glob:base.Ns mainGlobals mg
 blt:∃mb,base.Ns builtinsNs mb∧∀x:Str,x≠"__name__"→mb x=bootBuiltins x
 nolimit:base.NoLimit
structure Cx where
 prog:Program
 w:World
 K:PySem.W.Frag
 mg:Str→Option Value
 base:Heap
 A:Around
 N:List Str
 s₀:Shared
 H₀:Hp
 env:Env
 outer:List Env
 stack:List Env
 ex:List Addr
 fn:Str→Bool
 calm:Bool
 pn:List (Addr×Obj)
 xe:Value→Shared→Prop
noncomputable def frs(l:List Env):List Addr:=l.filterMap (·.frame)
noncomputable abbrev Cx.fs(X:Cx):List Addr:=frs X.outer
def Vis(sc:Scope)(x:Str):Prop:=sc.names.lookup x=some .local∨sc.names.lookup x=some .cell∨sc.names.lookup x=some .free
def Loc(sc:Scope)(x:Str):Prop:=sc.names.lookup x=some .local∨sc.names.lookup x=some .cell
def Look(env:Env)(h:Heap)(m:Str→Option Value)(x:Str)(u:Value):Prop:=
 (env.kindOf x=some .local∧m x=some u)∨((env.kindOf x=some .cell∨env.kindOf x=some .free)∧∃c,env.cells.lookup x=some c∧h.IsCell c (some u))
structure Cx.Ok(X:Cx):Prop where
 mod:Mod X.K X.mg X.base
 kind:X.env.scope.kind= .function
 glob:X.env.globals=mainGlobals
 blt:X.env.builtins=builtinsNs
 above:X.s₀.heap.objs.size≤X.env.locals
 inj:∀x y c,X.env.cells.lookup x=some c→X.env.cells.lookup y=some c→x=y
 has:∀x,(X.env.kindOf x=some .cell∨X.env.kindOf x=some .free)→∃c,X.env.cells.lookup x=some c
 cab:∀x c,X.fn x=true→X.env.cells.lookup x=some c→X.s₀.heap.objs.size≤c
 hd:X.calm=true→X.A.handled=none
 frames:X.A.frames=some X.stack
 stk:X.stack=X.outer∨(X.stack=X.env::X.outer∧X.env.frame=some X.env.locals)
 exf:∀b∈X.ex,b≠X.env.locals∧∀x c,X.env.cells.lookup x=some c→c≠b
 bs:∀b o,X.base.get? b=some o→X.s₀.heap.get? b=some o∧X.H₀ b=none
 bsz:X.base.objs.size≤X.s₀.heap.objs.size
 noex:∀b o,X.base.get? b=some o→b∉X.ex
 exfs:∀b∈X.ex,b∉X.fs
 funs:X.s₀.heap.FunFrames X.base X.outer
 frf:∀b∈X.fs,X.H₀ b=none
structure Inv(X:Cx)(pins:List (Addr×Obj))(σ:List (Option V))(H:Hp)(s:Shared):Prop where
 ok:X.Ok
 os:s.os=X.s₀.os
 bare:AllBare s.gens
 base:Un X.fs X.ex X.H₀ H X.s₀.heap s.heap
 loc:∃m,s.heap.Ns X.env.locals m∧∀(i:Nat) (x:Str) (v:V),X.N[i]?=some x→σ[i]?=some (some v)→Vis X.env.scope x→∃u,RelV v u∧Look X.env s.heap m x u
 cell:∀x c,X.env.cells.lookup x=some c→∃v,s.heap.IsCell c v
 free:H X.env.locals=none
 freeC:∀x c,X.env.cells.lookup x=some c→H c=none
 pin:∀p∈X.pn++pins,s.heap.get? p.1=some p.2∧H p.1=none∧p.1≠X.env.locals∧p.1∉X.fs∧∀v,p.2.data≠ .cell v
 hok:HOk X.prog X.w H s.heap
 len:σ.length=X.N.length
section
variable{X:Cx}{pins:List (Addr×Obj)}{σ:List (Option V)}{H H':Hp}{s:Shared}{h':Heap}
theorem Cx.Ok.nofr(ok:X.Ok){b:Addr}{o:Obj}(e:X.base.get? b=some o):b∉X.fs:=fun hb=>by
 have:=(ok.funs.mem hb).1
 rw[e] at this;cases this
theorem Inv.bs(I:Inv X pins σ H s):∀b o,X.base.get? b=some o→s.heap.get? b=some o∧H b=none:=fun b o e=>
 ⟨I.base.keep b o (I.ok.bs b o e).1 (I.ok.bs b o e).2 (I.ok.nofr e) (I.ok.noex b o e),I.base.free b o (I.ok.bs b o e).1 (I.ok.bs b o e).2 (I.ok.noex b o e)⟩
theorem Inv.bk(I:Inv X pins σ H s):∀b o,X.base.get? b=some o→s.heap.get? b=some o:=fun b o e=>(I.bs b o e).1
theorem Inv.mod(I:Inv X pins σ H s):Mod X.K X.mg X.base:=I.ok.mod
theorem Inv.kIn(I:Inv X pins σ H s):X.K.In s.heap:=I.ok.mod.kin.keeps I.bk
theorem Inv.lt(I:Inv X pins σ H s):X.env.locals<s.heap.objs.size:=by obtain⟨_,hn,_⟩:=I.loc;exact hn.lt
theorem Inv.sz(I:Inv X pins σ H s):X.s₀.heap.objs.size≤s.heap.objs.size:=Nat.le_trans I.ok.above (Nat.le_of_lt I.lt)
theorem Inv.nofs(I:Inv X pins σ H s){a:Addr}(h:s.heap.objs.size≤a):a∉X.fs:=fun hb=>by
 obtain⟨_,o,ho,_⟩:=I.ok.funs.mem hb
 exact absurd (Nat.lt_of_lt_of_le (Heap.lt_size ho) (Nat.le_trans I.sz h)) (Nat.lt_irrefl _)
theorem Inv.cne(I:Inv X pins σ H s):∀x c,X.env.cells.lookup x=some c→c≠X.env.locals:=fun x c e z=>by
 obtain⟨v,o,ho,hd⟩:=I.cell x c e
 obtain⟨m,⟨o',es,ep,ho',hd',_⟩,_⟩:=I.loc
 rw[z,ho'] at ho;cases ho;rw[hd'] at hd;cases hd
theorem Inv.funs(I:Inv X pins σ H s):s.heap.FunFrames X.base X.outer:=by
 have all:∀(l:List Env),(∀b∈frs l,b∈X.fs)→X.s₀.heap.FunFrames X.base l→s.heap.FunFrames X.base l:=by
  intro l
  induction l with
  | nil=>intro _ _;trivial
  | cons env r ih=>
   intro hs hl
   obtain⟨hk,⟨L,o,hf,hn,ho,hd⟩,hr⟩:=hl
   have hL:L∈X.fs:=hs L (by unfold frs;rw[List.filterMap_cons,hf];exact List.mem_cons_self)
   obtain⟨sl,e⟩:=I.base.slot L o ho (I.ok.frf L hL) hL fun z=>I.ok.exfs L z hL
   exact⟨hk,⟨L,_,hf,hn,e,hd⟩,ih (fun b hb=>hs b (by unfold frs;rw[List.filterMap_cons,hf];exact List.mem_cons_of_mem _ hb)) hr⟩
 exact all X.outer (fun _ hb=>hb) I.ok.funs
theorem Inv.stack(I:Inv X pins σ H s):s.heap.FunFrames X.base X.stack:=by
 rcases I.ok.stk with e | ⟨e,hf⟩
 ·rw[e];exact I.funs
 ·rw[e]
  obtain⟨m,hn,_⟩:=I.loc
  refine .cons (by rw[I.ok.kind];decide) hf hn ?_ I.funs
  exact Heap.get?_none_of_le (Nat.le_trans I.ok.bsz I.ok.above)
theorem Inv.stkSub(I:Inv X pins σ H s):∀b∈frs X.stack,b∈X.env.locals::X.fs:=fun b hb=>by
 rcases I.ok.stk with e | ⟨e,hf⟩
 ·rw[e] at hb;exact List.mem_cons_of_mem _ hb
 ·rw[e] at hb
  unfold frs at hb
  rw[List.filterMap_cons,hf] at hb
  exact hb
theorem Inv.stkFree(I:Inv X pins σ H s):∀b∈frs X.stack,H b=none:=fun b hb=>by
 rcases List.mem_cons.mp (I.stkSub b hb) with e | hb
 ·rw[e];exact I.free
 ·obtain⟨_,o,ho,_⟩:=I.ok.funs.mem hb
  exact I.base.free b o ho (I.ok.frf b hb) fun z=>I.ok.exfs b z hb
theorem Inv.step{g':Array GenState}{t':Nat}{d':Drawn}{ch:List Addr}(I:Inv X pins σ H s)
  (hch:∀b∈ch,(b∈X.ex∨X.s₀.heap.objs.size≤b)∧b≠X.env.locals∧(∀x c,X.env.cells.lookup x=some c→c≠b)∧∀p∈X.pn++pins,p.1≠b)
  (keep:∀b o,b≠X.env.locals→b∉X.fs→b∉ch→s.heap.get? b=some o→H b=none→h'.get? b=some o)
  (slot:∀b o,b≠X.env.locals→b∈X.fs→b∉ch→s.heap.get? b=some o→H b=none→∃sl,h'.get? b=some {o with slots:=sl}) (free:∀b o,b∉ch→s.heap.get? b=some o→H b=none→H' b=none)
  (there:∀b o,b∉ch→s.heap.get? b=some o→∃o',h'.get? b=some o')
  (tups:∀b xs,H b=some (.tup xs)→H' b=some (.tup xs)) (frzs:∀b o u,H b=some (.frz o u)→H' b=some (.frz o u)) (tbls:∀b ps,H b=some (.tbl ps)→∃more,H' b=some (.tbl (ps++more)))
  (ns:∀m,s.heap.Ns X.env.locals m→h'.Ns X.env.locals m) (hok:HOk X.prog X.w H' h') (hg:AllBare g'):
  Inv X pins σ H' {s with heap:=h',gens:=g',drawn:=d',toks:=t'}:=by
 have neL:∀b o,X.s₀.heap.get? b=some o→b≠X.env.locals:=fun b o e=>Nat.ne_of_lt (Nat.lt_of_lt_of_le (Heap.lt_size e) I.ok.above)
 have neC:∀b o,X.s₀.heap.get? b=some o→b∉X.ex→b∉ch:=fun b o e hx hb=>by
  rcases(hch b hb).1 with z | z
  ·exact hx z
  ·exact absurd (Nat.lt_of_lt_of_le (Heap.lt_size e) z) (Nat.lt_irrefl _)
 have cellK:∀x c,X.env.cells.lookup x=some c→∀v,s.heap.IsCell c v→h'.IsCell c v:=fun x c e v ⟨o,ho,hd⟩=>by
  have nch:c∉ch:=fun z=>(hch c z).2.2.1 x c e rfl
  by_cases hc:c∈X.fs
  ·obtain⟨sl,q⟩:=slot c o (I.cne x c e) hc nch ho (I.freeC x c e)
   exact⟨_,q,hd⟩
  ·exact⟨o,keep c o (I.cne x c e) hc nch ho (I.freeC x c e),hd⟩
 refine⟨I.ok,I.os,hg,⟨fun b o e n hb hx=>?_,fun b o e n hb hx=>?_,fun b o e n hx=>?_,fun b o e hx=>?_,fun b xs e=>tups b xs (I.base.tups b xs e),fun b o xs e=>frzs b o xs (I.base.frzs b o xs e),fun b ps e=>?_⟩,?_,fun x c e=>?_,?_,fun x c e=>?_,fun p hp=>?_,hok,I.len⟩
 ·exact keep b o (neL b o e) hb (neC b o e hx) (I.base.keep b o e n hb hx) (I.base.free b o e n hx)
 ·obtain⟨sl,e1⟩:=I.base.slot b o e n hb hx
  obtain⟨sl',e2⟩:=slot b _ (neL b o e) hb (neC b o e hx) e1 (I.base.free b o e n hx)
  exact⟨sl',e2⟩
 ·obtain⟨o',e1⟩:=I.base.there b o e hx
  exact free b o' (neC b o e hx) e1 (I.base.free b o e n hx)
 ·obtain⟨o',e1⟩:=I.base.there b o e hx
  exact there b o' (neC b o e hx) e1
 ·obtain⟨m1,e1⟩:=I.base.tbls b ps e
  obtain⟨m2,e2⟩:=tbls b _ e1
  exact⟨m1++m2,by rw[e2,Array.append_assoc]⟩
 ·obtain⟨m,hn,hl⟩:=I.loc
  refine⟨m,ns m hn,fun i x v e1 e2 e3=>?_⟩
  obtain⟨u,r,l⟩:=hl i x v e1 e2 e3
  refine⟨u,r,?_⟩
  rcases l with l | ⟨k,c,e,z⟩
  ·exact .inl l
  ·exact .inr ⟨k,c,e,cellK x c e _ z⟩
 ·obtain⟨v,z⟩:=I.cell x c e
  exact⟨v,cellK x c e v z⟩
 ·obtain⟨m,⟨o,_,_,ho,_⟩,_⟩:=I.loc
  exact free _ o (fun z=>(hch _ z).2.1 rfl) ho I.free
 ·obtain⟨v,o,ho,hd⟩:=I.cell x c e
  exact free c o (fun z=>(hch c z).2.2.1 x c e rfl) ho (I.freeC x c e)
 ·obtain⟨e,n,ne,nf,d⟩:=I.pin p hp
  have nch:p.1∉ch:=fun z=>(hch p.1 z).2.2.2 p hp rfl
  exact⟨keep p.1 p.2 ne nf nch e n,free p.1 p.2 nch e n,ne,nf,d⟩
theorem Inv.un{t':Nat}(I:Inv X pins σ H s)(u:Un X.fs [] H H' s.heap h')(hok:HOk X.prog X.w H' h'):Inv X pins σ H' {s with heap:=h',toks:=t'}:=by
 obtain⟨m,⟨o,es,ep,ho,r⟩,_⟩:=id I.loc
 obtain⟨sl,hL⟩:=u.any ho I.free (by simp)
 exact I.step (g':=s.gens) (d':=s.drawn) (ch:=[]) (fun _ z=>nomatch z) (fun b o _ hb _ e n=>u.keep b o e n hb (by simp)) (fun b o _ hb _ e n=>u.slot b o e n hb (by simp)) (fun b o _ e n=>u.free b o e n (by simp)) (fun b o _ e=>u.there b o e (by simp)) u.tups u.frzs u.tbls (fun m' hm=>by
  obtain⟨o',es',ep',ho',r'⟩:=hm
  rw[ho] at ho';cases ho'
  exact⟨_,es',ep',hL,r'⟩) hok I.bare
theorem Inv.call{g':Array GenState}{t':Nat}{d':Drawn}{ch:List Addr}(I:Inv X pins σ H s)(u:Un (frs X.stack) ch H H' s.heap h')(hok:HOk X.prog X.w H' h')(hg:AllBare g')
  (hch:∀b∈ch,(b∈X.ex∨X.s₀.heap.objs.size≤b)∧b≠X.env.locals∧(∀x c,X.env.cells.lookup x=some c→c≠b)∧∀p∈X.pn++pins,p.1≠b):
  Inv X pins σ H' {s with heap:=h',gens:=g',drawn:=d',toks:=t'}:=by
 obtain⟨m,⟨o,es,ep,ho,r⟩,_⟩:=id I.loc
 obtain⟨sl,hL⟩:=u.any ho I.free fun z=>(hch _ z).2.1 rfl
 exact I.step (ch:=ch) hch (fun b o hL hb hc e n=>u.keep b o e n (fun z=>(List.mem_cons.mp (I.stkSub b z)).elim hL hb) hc) (fun b o _ _ hc e n=>u.any e n hc) (fun b o hc e n=>u.free b o e n hc) (fun b o hc e=>u.there b o e hc) u.tups u.frzs u.tbls (fun m' hm=>by
  obtain⟨o',es',ep',ho',r'⟩:=hm
  rw[ho] at ho';cases ho'
  exact⟨_,es',ep',hL,r'⟩) hok hg
theorem Inv.turned{t':Nat}{it:Addr}(I:Inv X pins σ H s)(k:∀b o,b≠it→s.heap.get? b=some o→h'.get? b=some o)(hn:H it=none)(hL:it≠X.env.locals)
  (h1:it∈X.ex∨X.s₀.heap.objs.size≤it) (h2:∀x c,X.env.cells.lookup x=some c→c≠it) (h3:∀p∈X.pn++pins,p.1≠it):Inv X pins σ H {s with heap:=h',toks:=t'}:=by
 have nit:∀b u,H b=some u→b≠it:=fun b u e z=>by rw[z,hn] at e;cases e
 refine I.step (g':=s.gens) (d':=s.drawn) (ch:=[it]) (fun b hb=>?_) (fun b o _ _ hc e _=>k b o (fun z=>hc (by simp[z])) e) (fun b o _ _ hc e _=>⟨o.slots,k b o (fun z=>hc (by simp[z])) e⟩) (fun _ _ _ _ n=>n)
  (fun b o hc e=>⟨o,k b o (fun z=>hc (by simp[z])) e⟩) (fun _ _ e=>e) (fun _ _ _ e=>e) (fun b ps e=>⟨#[],by rw[e];simp⟩) (fun m hm=>?_) (fun b u e=>?_) I.bare
 ·have e:b=it:=by simpa using hb
  subst e
  exact⟨h1,hL,h2,h3⟩
 ·obtain⟨o,es,ep,ho,r⟩:=hm
  exact⟨o,es,ep,k _ o (Ne.symm hL) ho,r⟩
 ·refine(I.hok b u e).stay (fun c v hc q=>k c v ?_ q) (fun _ q=>q) fun _ _ q=>q
  rcases hc with z | z
  ·rw[z];exact nit b u e
  ·exact nit c _ z
theorem Inv.tok(I:Inv X pins σ H s)(t:Nat):Inv X pins σ H {s with toks:=t}:=I.un (h':=s.heap) (t':=t) Un.refl I.hok
theorem Inv.kept{t':Nat}(I:Inv X pins σ H s)(k:∀b u,s.heap.get? b=some u→h'.get? b=some u):Inv X pins σ H {s with heap:=h',toks:=t'}:=I.un (Un.kept k) (I.hok.kept k)
theorem Inv.laid{a:Addr}{o:HO}{t':Nat}(I:Inv X pins σ H s)(k:∀b u,s.heap.get? b=some u→h'.get? b=some u)(hp:s.heap.objs.size≤a)(new:Yu X.prog X.w (upd H a o) h' a o):
  Inv X pins σ (upd H a o) {s with heap:=h',toks:=t'}:=I.un (Un.laid k hp (I.hok.fresh hp)) (I.hok.laid k hp new)
theorem Inv.write{x e:Addr}{o:HO}{t':Nat}(I:Inv X pins σ H s)(mu:Mut (H x))(he:e=x∨H e=some (.own x))(k:∀b u,b≠e→s.heap.get? b=some u→h'.get? b=some u)(heo:∃u,h'.get? e=some u)
  (new:Yu X.prog X.w (upd H x o) h' x o):Inv X pins σ (upd H x o) {s with heap:=h',toks:=t'}:=I.un (Un.write mu he k heo) (I.hok.write mu he k heo new)
theorem Inv.pins_of{pins':List (Addr×Obj)}(I:Inv X pins σ H s)(h:∀p∈pins',s.heap.get? p.1=some p.2∧H p.1=none∧p.1≠X.env.locals∧p.1∉X.fs∧∀v,p.2.data≠ .cell v):Inv X pins' σ H s:=
 ⟨I.ok,I.os,I.bare,I.base,I.loc,I.cell,I.free,I.freeC,fun p hp=>(List.mem_append.mp hp).elim (fun z=>I.pin p (List.mem_append_left _ z)) (h p),I.hok,I.len⟩
theorem E7{N:List Str}(hN:N.Nodup){i j:Nat}{x:Str}(a:N[i]?=some x)(b:N[j]?=some x):i=j:=by
 obtain⟨h1,e1⟩:=List.getElem?_eq_some_iff.mp a
 obtain⟨h2,e2⟩:=List.getElem?_eq_some_iff.mp b
 exact(List.getElem_inj hN).mp (e1.trans e2.symm)
theorem Q9{M:Model}{A:Around}{E:Value→Shared→Prop}{i:Nat}{x:Str}{v:V}{u:Value}{Q:Unit→Shared→Prop}(I:Inv X pins σ H s)(hN:X.N.Nodup)(hi:X.N[i]?=some x)(hx:Loc X.env.scope x)(r:RelV v u)
  (h:∀s',Inv X pins (σ.set i (some v)) H s'→(∃a,Heap.SameBut a s.heap s'.heap∧(a=X.env.locals∨X.env.cells.lookup x=some a))→Q () s') (hf:X.fn x=true∨X.env.scope.names.lookup x=some .local:=by first | exact .inl rfl | exact .inr rfl | assumption):wpAny M A (storeName X.env x u) Q E s:=by
 obtain⟨m,hn,hl⟩:=id I.loc
 have hcls:(X.env.scope.kind== .class || (X.env.scope.kind== .module&&X.env.locals !=X.env.globals))=false:=by rw[I.ok.kind];rfl
 have hiσ:i<σ.length:=by rw[I.len];exact(List.getElem?_eq_some_iff.mp hi).1
 have cne:=I.cne
 have tracked:∀{a:Addr} {h':Heap},(∃o,s.heap.get? a=some o∧H a=none)→Heap.SameBut a s.heap h'→HOk X.prog X.w H h':=fun{a h'} ha hs b ob e=>by
  obtain⟨_,_,hfree⟩:=ha
  refine(I.hok b ob e).stay (fun c w' hc q=>(hs.2 c ?_).trans q) (fun _ q=>q) fun _ _ q=>q
  rintro rfl
  rcases hc with rfl | hc
  ·rw[hfree] at e;cases e
  ·rw[hfree] at hc;cases hc
 rcases hx with hk | hk
 ·refine wpAny_storeName_local hk hn (fun h' hn' hs=>?_) hcls
  obtain⟨oL,_,_,hoL,_⟩:=id hn
  refine h _ ⟨I.ok,I.os,I.bare,⟨fun b o e n hb hx=>?_,fun b o e n hb hx=>?_,I.base.free,fun b o e hx=>?_,I.base.tups,I.base.frzs,I.base.tbls⟩,⟨_,hn',fun j y v' e1 e2 e3=>?_⟩,fun y c e=>?_,I.free,I.freeC,fun p hp=>?_,tracked ⟨oL,hoL,I.free⟩ hs,by simpa using I.len⟩ ⟨_,hs,.inl rfl⟩
  ·exact(hs.2 b (Nat.ne_of_lt (Nat.lt_of_lt_of_le (Heap.lt_size e) I.ok.above))).trans (I.base.keep b o e n hb hx)
  ·obtain⟨sl,e1⟩:=I.base.slot b o e n hb hx
   exact⟨sl,(hs.2 b (Nat.ne_of_lt (Nat.lt_of_lt_of_le (Heap.lt_size e) I.ok.above))).trans e1⟩
  ·obtain⟨o',e1⟩:=I.base.there b o e hx
   exact⟨o',(hs.2 b (Nat.ne_of_lt (Nat.lt_of_lt_of_le (Heap.lt_size e) I.ok.above))).trans e1⟩
  ·by_cases hj:j=i
   ·subst hj
    rw[hi] at e1;cases e1
    rw[List.getElem?_set_self hiσ] at e2
    cases e2
    exact⟨u,r,.inl ⟨hk,by simp⟩⟩
   ·rw[List.getElem?_set_ne (Ne.symm hj)] at e2
    obtain⟨u',r',q⟩:=hl j y v' e1 e2 e3
    refine⟨u',r',?_⟩
    rcases q with⟨k,e⟩ | ⟨k,c,e,z⟩
    ·refine .inl ⟨k,?_⟩
     have:y≠x:=fun e=>hj (E7 hN e1 (e ▸ hi))
     simp[this,e]
    ·exact .inr ⟨k,c,e,z.sameBut hs (cne y c e)⟩
  ·obtain⟨w',z⟩:=I.cell y c e
   exact⟨w',z.sameBut hs (cne y c e)⟩
  ·obtain⟨e,n,ne,nf,d⟩:=I.pin p hp
   exact⟨(hs.2 p.1 ne).trans e,n,ne,nf,d⟩
 ·have hfn:X.fn x=true:=by
   rcases hf with z | z
   ·exact z
   ·rw[z] at hk;cases hk
  obtain⟨c,hc⟩:=I.ok.has x (.inl hk)
  obtain⟨w',z⟩:=I.cell x c hc
  refine wpAny_storeName_cell I.ok.kind hk hc z (fun h' hc' hs=>?_)
  obtain⟨oc,hoc,hocd⟩:=id z
  refine h {s with heap:=h'} ⟨I.ok,I.os,I.bare,⟨fun b o e n hb hx=>?_,fun b o e n hb hx=>?_,I.base.free,fun b o e hx=>?_,I.base.tups,I.base.frzs,I.base.tbls⟩,⟨m,hn.sameBut hs (Ne.symm (cne x c hc)),fun j y v' e1 e2 e3=>?_⟩,fun y c' e=>?_,I.free,I.freeC,fun p hp=>?_,tracked ⟨oc,hoc,I.freeC x c hc⟩ hs,by simpa using I.len⟩ ⟨c,hs,.inr hc⟩
  ·exact(hs.2 b (Nat.ne_of_lt (Nat.lt_of_lt_of_le (Heap.lt_size e) (I.ok.cab x c hfn hc)))).trans (I.base.keep b o e n hb hx)
  ·obtain⟨sl,e1⟩:=I.base.slot b o e n hb hx
   exact⟨sl,(hs.2 b (Nat.ne_of_lt (Nat.lt_of_lt_of_le (Heap.lt_size e) (I.ok.cab x c hfn hc)))).trans e1⟩
  ·obtain⟨o',e1⟩:=I.base.there b o e hx
   exact⟨o',(hs.2 b (Nat.ne_of_lt (Nat.lt_of_lt_of_le (Heap.lt_size e) (I.ok.cab x c hfn hc)))).trans e1⟩
  ·by_cases hj:j=i
   ·subst hj
    rw[hi] at e1;cases e1
    rw[List.getElem?_set_self hiσ] at e2
    cases e2
    exact⟨u,r,.inr ⟨.inl hk,c,hc,hc'⟩⟩
   ·rw[List.getElem?_set_ne (Ne.symm hj)] at e2
    obtain⟨u',r',q⟩:=hl j y v' e1 e2 e3
    refine⟨u',r',?_⟩
    rcases q with q | ⟨k,c',e,z'⟩
    ·exact .inl q
    ·refine .inr ⟨k,c',e,z'.sameBut hs ?_⟩
     rintro rfl
     exact hj (E7 hN e1 (I.ok.inj _ _ _ e hc ▸ hi))
  ·by_cases hcc:c'=c
   ·subst hcc;exact⟨_,hc'⟩
   ·obtain⟨w2,z2⟩:=I.cell y c' e
    exact⟨w2,z2.sameBut hs hcc⟩
  ·obtain⟨e,n,ne,nf,d⟩:=I.pin p hp
   refine⟨(hs.2 p.1 ?_).trans e,n,ne,nf,d⟩
   intro q
   rw[q,hoc] at e
   have q':oc=p.2:=Option.some.inj e
   exact d w' (by rw[←q'];exact hocd)
theorem Eh{M:Model}{A:Around}{E:Value→Shared→Prop}{i:Nat}{x:Str}{v:V}{u:Value}{Q:Unit→Shared→Prop}(I:Inv X pins σ H s)(hN:X.N.Nodup)(hi:X.N[i]?=some x)(hx:Loc X.env.scope x)(r:RelV v u)
  (h:∀s',Inv X pins (σ.set i (some v)) H s'→Q () s') (hf:X.fn x=true∨X.env.scope.names.lookup x=some .local:=by first | exact .inl rfl | exact .inr rfl | assumption):wpAny M A (storeName X.env x u) Q E s:=
 Q9 I hN hi hx r (fun s' I' _=>h s' I') hf
theorem Inv.call'{s':Shared}{ch:List Addr}(I:Inv X pins σ H s)(ho:s'.os=s.os)(u:Un (frs X.stack) ch H H' s.heap s'.heap)(hok:HOk X.prog X.w H' s'.heap)(hg:AllBare s'.gens)
  (hch:∀b∈ch,(b∈X.ex∨X.s₀.heap.objs.size≤b)∧b≠X.env.locals∧(∀x c,X.env.cells.lookup x=some c→c≠b)∧∀p∈X.pn++pins,p.1≠b):Inv X pins σ H' s':=by
 obtain⟨h',g',d',t',o'⟩:=s'
 have e:o'=s.os:=ho
 subst e
 exact I.call (g':=g') (t':=t') (d':=d') u hok hg hch
end
abbrev XK:=Value→Option Addr→Hp→Prop
noncomputable abbrev St:=List (Option V)
abbrev VK:=V→Hp→Prop
abbrev TE:=St→Hp→VK→Prop
abbrev TT:=St→Hp→(Bool→Hp→Prop)→Prop
abbrev TA:=St→Hp→(List V→Hp→Prop)→Prop
structure Ends where
 nx:St→Hp→Prop
 rt:VK
 bk:St→Hp→Prop:=fun _ _=>False
 ct:St→Hp→Prop:=fun _ _=>False
abbrev TS:=Ends→St→Hp→Prop
def EP(X:Cx)(pins:List (Addr×Obj))(σ:St)(Q:VK)(u:Value)(s':Shared):Prop:=∃v H',Inv X pins σ H' s'∧RelV v u∧Q v H'
def TP(X:Cx)(pins:List (Addr×Obj))(σ:St)(Q:Bool→Hp→Prop)(b:Bool)(s':Shared):Prop:=∃H',Inv X pins σ H' s'∧Q b H'
def AP(X:Cx)(pins:List (Addr×Obj))(σ:St)(Q:List V→Hp→Prop)(us:List Value)(s':Shared):Prop:=∃vs H',Inv X pins σ H' s'∧Vals vs us∧Q vs H'
def SP(X:Cx)(pins:List (Addr×Obj))(D:Ends)(f:Flow)(s':Shared):Prop:=
 match f with
 | .next=>∃σ' H',Inv X pins σ' H' s'∧D.nx σ' H'
 | .brk=>∃σ' H',Inv X pins σ' H' s'∧D.bk σ' H'
 | .cont=>∃σ' H',Inv X pins σ' H' s'∧D.ct σ' H'
 | .ret u=>∃v σ' H',Inv X pins σ' H' s'∧RelV v u∧D.rt v H'
def PE(X:Cx)(e:Expr)(t:TE):Prop:=
 ∀(pins:List (Addr×Obj)) (s:Shared) (σ:St) (H:Hp) (Q:VK),Inv X pins σ H s→t σ H Q→wpAny (model X.prog X.w) X.A (eval e X.env) (EP X pins σ Q) X.xe s
def PT(X:Cx)(e:Expr)(t:TT):Prop:=
 ∀(pins:List (Addr×Obj)) (s:Shared) (σ:St) (H:Hp) (Q:Bool→Hp→Prop),Inv X pins σ H s→t σ H Q→wpAny (model X.prog X.w) X.A (isTrue e X.env (eval e X.env)) (TP X pins σ Q) X.xe s
def PW(X:Cx)(e:Expr)(t:TT):Prop:=
 ∀(whole:Sem Value) (pins:List (Addr×Obj)) (s:Shared) (σ:St) (H:Hp) (Q:Bool→Hp→Prop),Inv X pins σ H s→t σ H Q→wpAny (model X.prog X.w) X.A (isTrue e X.env whole) (TP X pins σ Q) X.xe s
theorem PW.pt{X:Cx}{e:Expr}{t:TT}(h:PW X e t):PT X e t:=h _
def PA(X:Cx)(es:List Expr)(t:TA):Prop:=
 ∀(pos:Pos) (pins:List (Addr×Obj)) (s:Shared) (σ:St) (H:Hp) (Q:List V→Hp→Prop),Inv X pins σ H s→t σ H Q→wpAny (model X.prog X.w) X.A (spliced (backTo pos (starEach es X.env))) (AP X pins σ Q) X.xe s
def PS(X:Cx)(st:Stmt)(t:TS):Prop:=
 ∀(pins:List (Addr×Obj)) (s:Shared) (σ:St) (H:Hp) (D:Ends),Inv X pins σ H s→t D σ H→wpAny (model X.prog X.w) X.A (exec st X.env) (SP X pins D) X.xe s
def PSs(X:Cx)(st:List Stmt)(t:TS):Prop:=
 ∀(pins:List (Addr×Obj)) (s:Shared) (σ:St) (H:Hp) (D:Ends),Inv X pins σ H s→t D σ H→wpAny (model X.prog X.w) X.A (execs st X.env) (SP X pins D) X.xe s
theorem thn{α:Type}{t:Sem α}{Q Q':α→Shared→Prop}{M:Model}{A:Around}{E:Value→Shared→Prop}{s:Shared}(h:wpAny M A t Q E s)(hQ:∀a s,Q a s→Q' a s):wpAny M A t Q' E s:=wpAny_mono h hQ fun _ _ x=>x
section
variable{X:Cx}
theorem bin{a b:Expr}{ta tb:TE}(ha:PE X a ta)(hb:PE X b tb){pins:List (Addr×Obj)}{s:Shared}{σ:St}{H:Hp}{R:V→V→Hp→Prop}(I:Inv X pins σ H s)(h:ta σ H fun x H1=>tb σ H1 fun y H2=>R x y H2)
  {α:Type} {Q:α→Shared→Prop} {f:Value→Value→Sem α}
  (hf:∀v u s2 x y H2,Inv X pins σ H2 s2→RelV x v→RelV y u→R x y H2→wpAny (model X.prog X.w) X.A (f v u) Q X.xe s2):
  wpAny (model X.prog X.w) X.A (eval a X.env) (fun v s₁=>wpAny (model X.prog X.w) X.A (eval b X.env) (fun u s₂=>wpAny (model X.prog X.w) X.A (f v u) Q X.xe s₂) X.xe s₁) X.xe s:=by
 refine thn (ha pins s σ H _ I h) fun v s1 zz2=>?_
 obtain⟨x,H1,I1,r1,q1⟩:=zz2
 refine thn (hb pins s1 σ H1 _ I1 q1) fun u s2 zz3=>?_
 obtain⟨y,H2,I2,r2,q2⟩:=zz3
 exact hf v u s2 x y H2 I2 r1 r2 q2
def tVar(i:Nat):TE:=fun σ H Q=>∃v,σ[i]?=some (some v)∧Q v H
def tC(v:V):TE:=fun _ H Q=>Q v H
theorem Z98{i:Nat}{x:Str}{pos:Pos}(hN:X.N[i]?=some x)(hv:Vis X.env.scope x)(hd:(x==("__debug__":Str))=false:=by decide)(hcd:(x==("__classdict__":Str))=false:=by decide):PE X (.Name x pos) (tVar i):=by
 intro pins s σ H Q I h
 obtain⟨v,e,h⟩:=h
 obtain⟨m,hn,hl⟩:=I.loc
 obtain⟨u,r,l⟩:=hl i x v hN e hv
 have fin:EP X pins σ Q u s:=⟨v,H,I,r,h⟩
 rcases l with⟨hk,hm⟩ | ⟨hk,c,hc,hcell⟩
 ·exact wpAny_Name (wpAny_loadName_local I.ok.kind hk hn hm fin) hd
 ·rcases hk with hk | hk
  ·exact wpAny_Name (wpAny_loadName_cell I.ok.kind hk hc hcell fin) hd
  ·exact wpAny_Name (wpAny_loadName_free I.ok.kind hk hc hcell fin hcd) hd
theorem Zl5{i j pos}:PE X (.Constant (.int i) j pos) (tC (.int i)):=fun _ _ _ H _ I h=>wpAny_Constant_int ⟨.int i,H,I.tok _,⟨_,rfl⟩,h⟩
theorem Y86{b j pos}:PE X (.Constant (.bool b) j pos) (tC (.bl b)):=fun _ _ _ H _ I h=>Constant_bool ⟨.bl b,H,I,rfl,h⟩
theorem Zx6{j pos}:PE X (.Constant .none j pos) (tC .non):=fun _ _ _ H _ I h=>Constant_none ⟨.non,H,I,rfl,h⟩
theorem Y02{x j pos}:PE X (.Constant (.str x) j pos) (tC (.str x)):=fun _ _ _ H _ I h=>Calls.Constant_str ⟨.str x,H,I.tok _,⟨_,rfl⟩,h⟩
def Gl(X:Cx)(x:Str):Prop:=X.env.kindOf x=some .globalImplicit
theorem V3{E:Value→Shared→Prop}{pins:List (Addr×Obj)}{s:Shared}{σ:St}{H:Hp}{x:Str}{u:Value}{pos:Pos}{Q:Value→Shared→Prop}(I:Inv X pins σ H s)(hg:Gl X x)(hm:X.mg x=some u)(h:Q u s)
  (hd:(x==("__debug__":Str))=false:=by decide):wpAny (model X.prog X.w) X.A (eval (.Name x pos) X.env) Q E s:=
 Calls.Name_function_global I.ok.kind hg (Calls.loadGlobal_global (by rw[I.ok.glob];exact I.mod.glob.keeps I.bk) hm h) hd
theorem Q3{E:Value→Shared→Prop}{pins:List (Addr×Obj)}{s:Shared}{σ:St}{H:Hp}{x:Str}{u:Value}{pos:Pos}{Q:Value→Shared→Prop}(I:Inv X pins σ H s)(hg:Gl X x)(hm:X.mg x=none)(hv:bootBuiltins x=some u)(h:Q u s)
  (hn:x≠"__name__":=by decide) (hd:(x==("__debug__":Str))=false:=by decide):wpAny (model X.prog X.w) X.A (eval (.Name x pos) X.env) Q E s:=by
 obtain⟨mb,h1,h2⟩:=I.mod.blt
 exact Calls.Name_function_global I.ok.kind hg (Calls.loadGlobal_builtin (by rw[I.ok.glob];exact I.mod.glob.keeps I.bk) hm (by rw[I.ok.blt];exact h1.keeps I.bk) ((h2 x hn).trans hv) h) hd
theorem Zv9{x:Str}{v:V}{u:Value}{pos:Pos}(hg:Gl X x)(hm:X.mg x=some u)(r:RelV v u)(hd:(x==("__debug__":Str))=false:=by decide):PE X (.Name x pos) (tC v):=
 fun _ _ _ H _ I h=>V3 I hg hm ⟨v,H,I,r,h⟩ hd
theorem Zw7{x:Str}{v:V}{u:Value}{pos:Pos}(hg:Gl X x)(hm:X.mg x=none)(hv:bootBuiltins x=some u)(r:RelV v u)(hn:x≠"__name__":=by decide)(hd:(x==("__debug__":Str))=false:=by decide):PE X (.Name x pos) (tC v):=
 fun _ _ _ H _ I h=>Q3 I hg hm hv ⟨v,H,I,r,h⟩ hn hd
variable{a b:Expr}{ta tb:TE}{pos:Pos}
variable{tA tB':TT}{rest:List Expr}
def tAnd(t u:TT):TT:=fun σ H Q=>t σ H fun c H1=>if c=true then u σ H1 Q else Q false H1
def tOr(t u:TT):TT:=fun σ H Q=>t σ H fun c H1=>if c=true then Q true H1 else u σ H1 Q
def tNot(t:TT):TT:=fun σ H Q=>t σ H fun c H1=>Q (!c) H1
theorem Zo7(ha:PT X a tA):PW X (.BoolOp .And [a] pos) tA:=by
 intro wh pins s σ H Q I h
 refine isTrue_and (thn (ha pins s σ H Q I h) fun c s1 e=>?_)
 cases c with
 | true=>exact isTrue_and_nil e
 | false=>exact e
theorem Y04(ha:PT X a tA):PW X (.BoolOp .Or [a] pos) tA:=by
 intro wh pins s σ H Q I h
 refine isTrue_or (thn (ha pins s σ H Q I h) fun c s1 e=>?_)
 cases c with
 | false=>exact isTrue_or_nil e
 | true=>exact e
theorem Y50(ha:PT X a tA)(hb:PW X (.BoolOp .And (b::rest) pos) tB'):PW X (.BoolOp .And (a::b::rest) pos) (tAnd tA tB'):=by
 intro wh pins s σ H Q I h
 refine isTrue_and (thn (ha pins s σ H _ I h) fun c s1 zz4=>?_)
 obtain⟨H1,I1,q1⟩:=zz4
 cases c with
 | true=>exact hb wh pins s1 σ H1 Q I1 q1
 | false=>exact⟨H1,I1,q1⟩
theorem Y75(ha:PT X a tA)(hb:PW X (.BoolOp .Or (b::rest) pos) tB'):PW X (.BoolOp .Or (a::b::rest) pos) (tOr tA tB'):=by
 intro wh pins s σ H Q I h
 refine isTrue_or (thn (ha pins s σ H _ I h) fun c s1 zz5=>?_)
 obtain⟨H1,I1,q1⟩:=zz5
 cases c with
 | true=>exact⟨H1,I1,q1⟩
 | false=>exact hb wh pins s1 σ H1 Q I1 q1
theorem Y15(ha:PT X a tA):PT X (.UnaryOp .Not a pos) (tNot tA):=by
 intro pins s σ H Q I h
 exact isTrue_not (ha pins s σ H (fun c H1=>Q (!c) H1) I h)
theorem Y24{op}{t:TE}(h:PE X a t):PE X (.BoolOp op [a] pos) t:=fun pins s σ H Q I hw=>BoolOp_one (h pins s σ H Q I hw)
def tIf(t:TT)(ta tb:TE):TE:=fun σ H Q=>t σ H fun c H1=>if c=true then ta σ H1 Q else tb σ H1 Q
theorem Zj7{c:Expr}(hc:PT X c tA)(ha:PE X a ta)(hb:PE X b tb):PE X (.IfExp c a b pos) (tIf tA ta tb):=by
 intro pins s σ H Q I h
 refine wpAny_IfExp (thn (hc pins s σ H _ I h) fun d s1 zz6=>?_)
 obtain⟨H1,I1,q1⟩:=zz6
 cases d with
 | true=>exact ha pins s1 σ H1 Q I1 q1
 | false=>exact hb pins s1 σ H1 Q I1 q1
end
def SqL(K:PySem.W.Frag)(H:Hp)(a:Addr)(xs:List V):Prop:=
 Rd H a (.lst xs)∨
  ∃(o:Obj) (its:Array Value) (n:Nat),K.lookup a=some o∧o.cls= .type "list"∧o.dict=none∧o.data= .seq its n∧its.size≤sizeLine∧Vals xs its.toList
def SqT(K:PySem.W.Frag)(H:Hp)(a:Addr)(xs:List V):Prop:=
 Rd H a (.tup xs)∨
  ∃(o:Obj) (its:Array Value) (n:Nat),K.lookup a=some o∧o.cls= .type "tuple"∧o.data= .seq its n∧its.size≤sizeLine∧Vals xs its.toList
noncomputable def absV:Value→Option V
 | .none=>some .non
 | .bool b=>some (.bl b)
 | .int i _=>some (.int i)
 | .str x _=>some (.str x)
 | .bytes b _=>some (.byt b)
 | .float b _=>some (.flt b)
 | .ref a=>some (.ref a)
 | .type n=>some (.ty n)
 | _=>none
theorem RelV.abs{x:V}{u:Value}(r:RelV x u):absV u=some x:=by
 cases x with
 | non=>cases r;rfl
 | bl _=>cases r;rfl
 | int _=>obtain⟨t,rfl⟩:=r;rfl
 | str _=>obtain⟨t,rfl⟩:=r;rfl
 | byt _=>obtain⟨t,rfl⟩:=r;rfl
 | flt _=>obtain⟨t,rfl⟩:=r;rfl
 | ref _=>cases r;rfl
 | ty _=>cases r;rfl
theorem RelV.inj{x y:V}{u:Value}(r:RelV x u)(q:RelV y u):x=y:=Option.some.inj (r.abs.symm.trans q.abs)
theorem Vals.inj:∀{xs ys:List V} {us:List Value},Vals xs us→Vals ys us→xs=ys
 | _,_,_,.nil,.nil=>rfl
 | _,_,_,.cons r t,.cons r' t'=>by rw[r.inj r',Vals.inj t t']
section
variable{X:Cx}{pins:List (Addr×Obj)}{σ:St}{H:Hp}{s:Shared}{a:Addr}{xs ys:List V}
theorem SqL.of{K:PySem.W.Frag}(h:H a=some (.lst xs)):SqL K H a xs:= .inl (.inl h)
theorem SqT.of{K:PySem.W.Frag}(h:H a=some (.tup xs)):SqT K H a xs:= .inl (.inl h)
theorem Inv.list(I:Inv X pins σ H s)(h:SqL X.K H a xs):∃its:List Value,Vals xs its∧PlainL s.heap a its.toArray∧xs.length≤sizeLine:=by
 rcases h with h | ⟨o,its,n,hk,hc,hd,hs,hz,r⟩
 ·obtain⟨z,its,n,r,e⟩:=h.ok I.hok
  exact⟨its,r,⟨_,n,e,rfl,rfl,rfl⟩,z⟩
 ·refine⟨its.toList,r,⟨o,n,I.kIn a o hk,hc,hd,by simpa using hs⟩,?_⟩
  have e:=r.length
  simp only[Array.length_toList] at e
  omega
theorem Inv.tuple(I:Inv X pins σ H s)(h:SqT X.K H a xs):∃its:List Value,Vals xs its∧IsTup s.heap a its.toArray∧xs.length≤sizeLine:=by
 rcases h with h | ⟨o,its,n,hk,hc,hs,hz,r⟩
 ·obtain⟨z,its,r,p⟩:=h.ok I.hok
  exact⟨its,r,p,z⟩
 ·refine⟨its.toList,r,⟨o,I.kIn a o hk,hc,n,by simpa using hs⟩,?_⟩
  have e:=r.length
  simp only[Array.length_toList] at e
  omega
theorem Inv.list_inj(I:Inv X pins σ H s)(h:SqL X.K H a xs)(h':SqL X.K H a ys):xs=ys:=by
 obtain⟨its,r,⟨o,n,e,_,_,d⟩,_⟩:=I.list h
 obtain⟨its',r',⟨o',n',e',_,_,d'⟩,_⟩:=I.list h'
 rw[e] at e';cases e'
 rw[d] at d'
 injection d' with d1 _
 have:its=its':=by simpa using congrArg Array.toList d1
 subst this
 exact r.inj r'
theorem Inv.tuple_inj(I:Inv X pins σ H s)(h:SqT X.K H a xs)(h':SqT X.K H a ys):xs=ys:=by
 obtain⟨its,r,⟨o,e,_,n,d⟩,_⟩:=I.tuple h
 obtain⟨its',r',⟨o',e',_,n',d'⟩,_⟩:=I.tuple h'
 rw[e] at e';cases e'
 rw[d] at d'
 injection d' with d1 _
 have:its=its':=by simpa using congrArg Array.toList d1
 subst this
 exact r.inj r'
end
abbrev Cx.wish(X:Cx)(E:Value→Shared→Prop):Cx:={X with xe:=E}
noncomputable abbrev Cx.nox(X:Cx):Cx:=X.wish fun _ _=>False
theorem Cx.Ok.wish{X:Cx}(ok:X.Ok)(E:Value→Shared→Prop):(X.wish E).Ok:=
 ⟨ok.mod,ok.kind,ok.glob,ok.blt,ok.above,ok.inj,ok.has,ok.cab,ok.hd,ok.frames,ok.stk,ok.exf,ok.bs,ok.bsz,ok.noex,ok.exfs,ok.funs,ok.frf⟩
theorem Cx.Ok.unwish{X:Cx}{E:Value→Shared→Prop}(ok:(X.wish E).Ok):X.Ok:=
 ⟨ok.mod,ok.kind,ok.glob,ok.blt,ok.above,ok.inj,ok.has,ok.cab,ok.hd,ok.frames,ok.stk,ok.exf,ok.bs,ok.bsz,ok.noex,ok.exfs,ok.funs,ok.frf⟩
section
variable{X:Cx}{pins:List (Addr×Obj)}{σ:St}{H:Hp}{s:Shared}{E:Value→Shared→Prop}
theorem Inv.wish(I:Inv X pins σ H s)(E:Value→Shared→Prop):Inv (X.wish E) pins σ H s:=⟨I.ok.wish E,I.os,I.bare,I.base,I.loc,I.cell,I.free,I.freeC,I.pin,I.hok,I.len⟩
theorem Inv.unwish(I:Inv (X.wish E) pins σ H s):Inv X pins σ H s:=⟨I.ok.unwish,I.os,I.bare,I.base,I.loc,I.cell,I.free,I.freeC,I.pin,I.hok,I.len⟩
theorem SP.unwish{D:Ends}{f:Flow}{s':Shared}(h:SP (X.wish E) pins D f s'):SP X pins D f s':=by
 cases f with
 | next=>obtain⟨σ',H',I,q⟩:=h;exact⟨σ',H',I.unwish,q⟩
 | brk=>obtain⟨σ',H',I,q⟩:=h;exact⟨σ',H',I.unwish,q⟩
 | cont=>obtain⟨σ',H',I,q⟩:=h;exact⟨σ',H',I.unwish,q⟩
 | ret u=>obtain⟨v,σ',H',I,r,q⟩:=h;exact⟨v,σ',H',I.unwish,r,q⟩
theorem PSs.nox{st:List Stmt}{t:TS}(h:PSs X.nox st t):PSs X st t:=fun pins s σ H D I hw=>
 wpAny_mono (h pins s σ H D (I.wish _) hw) (fun _ _ q=>q.unwish) fun _ _ z=>False.elim z
end
section
variable{X:Cx}{st:Stmt}{rest:List Stmt}{t u:TS}{e:Expr}{te:TE}{pos:Pos}
def Y84:TS:=fun D σ H=>D.nx σ H
def tSeq(t u:TS):TS:=fun D σ H=>t {D with nx:=u D} σ H
theorem Z34:PSs X [] Y84:=fun _ _ σ H _ I h=>wpAny_execs_nil ⟨σ,H,I,h⟩
theorem C1(h1:PS X st t)(h2:PSs X rest u):PSs X (st::rest) (tSeq t u):=by
 intro pins s σ H D I h
 refine wpAny_execs_cons (thn (h1 pins s σ H {D with nx:=u D} I h) fun f s1 q=>?_)
 cases f with
 | next=>
  obtain⟨σ',H',I',q⟩:=q
  exact h2 pins s1 σ' H' D I' q
 | ret v=>exact q
 | brk=>exact q
 | cont=>exact q
theorem Inv.quiet{pins:List (Addr×Obj)}{σ:St}{H:Hp}{s:Shared}(I:Inv X pins σ H s):interactive X.env=false:=by simp[interactive,I.ok.kind]
def Y97(te:TE):TS:=fun D σ H=>te σ H fun _ H1=>D.nx σ H1
theorem Zn5(he:PE X e te)(hs:swapsWith e none pos.line X.env=pure false:=by rfl):PS X (.Expr e pos) (Y97 te):=by
 intro pins s σ H D I h
 exact wpAny_Expr_any (thn (he pins s σ H _ I h) fun v s1 zz7=>by obtain⟨x,H1,I1,r1,q1⟩:=zz7;exact⟨σ,H1,I1,q1⟩) I.quiet hs
def tRet(te:TE):TS:=fun D σ H=>te σ H D.rt
theorem Zy5(he:PE X e te):PS X (.Return (some e) pos) (tRet te):=by
 intro pins s σ H D I h
 exact wpAny_Return_some (thn (he pins s σ H _ I h) fun v s1 zz8=>by obtain⟨x,H1,I1,r1,q1⟩:=zz8;exact⟨x,σ,H1,I1,r1,q1⟩)
def tIfS(c:TT)(t u:TS):TS:=fun D σ H=>c σ H fun b H1=>if b=true then t D σ H1 else u D σ H1
theorem Y79{c:Expr}{a b:List Stmt}{tc:TT}(hc:PT X c tc)(ha:PSs X a t)(hb:PSs X b u):PS X (.If c a b pos) (tIfS tc t u):=by
 intro pins s σ H D I h
 refine wpAny_If (thn (hc pins s σ H _ I h) fun d s1 zz9=>?_)
 obtain⟨H1,I1,q1⟩:=zz9
 cases d with
 | true=>exact ha pins s1 σ H1 D I1 q1
 | false=>exact hb pins s1 σ H1 D I1 q1
def Zy2:TS:=fun _ _ _=>False
theorem Fm:PS X st Zy2:=fun _ _ _ _ _ _ h=>h.elim
end
abbrev TG:=V→St→Hp→(St→Hp→Prop)→Prop
abbrev TGs:=List V→St→Hp→(St→Hp→Prop)→Prop
def PG(X:Cx)(target:Expr)(t:TG):Prop:=
 ∀(pins:List (Addr×Obj)) (s:Shared) (σ:St) (H:Hp) (v:V) (u:Value) (Q:St→Hp→Prop),Inv X pins σ H s→RelV v u→t v σ H Q→
  wpAny (model X.prog X.w) X.A (assign target X.env u) (fun _ s'=>∃σ' H',Inv X pins σ' H' s'∧Q σ' H') X.xe s
def PGs(X:Cx)(ts:List Expr)(t:TGs):Prop:=
 ∀(pins:List (Addr×Obj)) (s:Shared) (σ:St) (H:Hp) (vs:List V) (us:List Value) (Q:St→Hp→Prop),Inv X pins σ H s→Vals vs us→t vs σ H Q→
  wpAny (model X.prog X.w) X.A (assignInOrder ((assignEach ts X.env).map (·.2)) us) (fun _ s'=>∃σ' H',Inv X pins σ' H' s'∧Q σ' H') X.xe s
abbrev TSet:=V→V→V→Hp→(Hp→Prop)→Prop
def PSet(X:Cx)(t:TSet):Prop:=
 ∀(pins:List (Addr×Obj)) (s:Shared) (σ:St) (H:Hp) (o i v:V) (ov iv u:Value) (Q:Hp→Prop),Inv X pins σ H s→RelV o ov→RelV i iv→RelV v u→t o i v H Q→
  wpAny (model X.prog X.w) X.A (setItem ov iv u) (fun _ s'=>∃H',Inv X pins σ H' s'∧Q H') X.xe s
section
variable{X:Cx}{pos:Pos}
noncomputable def Zb6(i:Nat):TG:=fun v σ H Q=>Q (σ.set i (some v)) H
theorem Zw5{i:Nat}{x:Str}(hN:X.N.Nodup)(hi:X.N[i]?=some x)(hx:Loc X.env.scope x)(hf:X.fn x=true∨X.env.scope.names.lookup x=some .local:=by first | exact .inl rfl | exact .inr rfl | assumption):PG X (.Name x pos) (Zb6 i):=by
 intro pins s σ H v u Q I r h
 exact wpAny_assign_Name (Eh I hN hi hx r (fun s' I'=>⟨_,H,I',h⟩) hf)
noncomputable def gNil:TGs:=fun vs σ H Q=>vs=[]∧Q σ H
noncomputable def Zz3(t:TG)(u:TGs):TGs:=fun vs σ H Q=>∃v r,vs=v::r∧t v σ H fun σ' H'=>u r σ' H' Q
theorem Zt9:PGs X [] gNil:=by
 intro pins s σ H vs us Q I r h
 obtain⟨e,h⟩:=h
 subst e
 cases r
 exact assignInOrder_nil ⟨σ,H,I,h⟩
theorem Zd6{e:Expr}{es:List Expr}{t:TG}{u:TGs}(h1:PG X e t)(h2:PGs X es u)
  (hs:(assignEach (e::es) X.env).map (·.2)=assign e X.env::(assignEach es X.env).map (·.2):=by rfl):PGs X (e::es) (Zz3 t u):=by
 intro pins s σ H vs us Q I r h
 obtain⟨v,vr,e1,h⟩:=h
 subst e1
 cases r with
 | cons r rr=>
  rw[hs]
  refine assignInOrder_cons (thn (h1 pins s σ H _ _ _ I r h) fun _ s1 zz10=>?_)
  obtain⟨σ1,H1,I1,q1⟩:=zz10
  exact h2 pins s1 σ1 H1 _ _ Q I1 rr q1
noncomputable def gTup(K:PySem.W.Frag)(n:Nat)(t:TGs):TG:=fun v σ H Q=>∃a xs,v= .ref a∧SqT K H a xs∧xs.length=n∧t xs σ H Q
theorem Zz6{es:List Expr}{k:Nat}{t:TGs}{n:Nat}(hc:X.calm=true)(h:PGs X es t)
  (hn:(assignEach es X.env).length=n:=by rfl) (hst:(assignEach es X.env).findIdx? (·.1)=none:=by rfl):PG X (.Tuple es k pos) (gTup X.K n t):=by
 intro pins s σ H v u Q I r hw
 obtain⟨a,xs,e1,hq,hl,hw⟩:=hw
 subst e1
 cases r
 obtain⟨its,rv,ht,hz⟩:=I.tuple hq
 refine assign_Tuple_tuple (I.ok.hd hc) ht (by simp[hn,←hl,rv.length]) hst fun h' hx=>?_
 have I1:Inv X pins σ H {s with heap:=h'}:=I.kept (t':=s.toks) fun b o e=>hx b o (Nat.ne_of_lt (Heap.lt_size e)) e
 exact h pins _ σ H xs _ Q I1 (by simpa using rv) hw
def tAsg(te:TE)(g:TG):TS:=fun D σ H=>te σ H fun x H1=>g x σ H1 D.nx
theorem Zl4{tg e:Expr}{te:TE}{g:TG}(he:PE X e te)(hg:PG X tg g)(hs:swapsWithSole [tg] e pos.line X.env=pure false:=by rfl)(hw:swappedStores [tg] e X.env=pure none:=by rfl)
  (h1:(assignEach [tg] X.env).map (·.2)=[assign tg X.env]:=by rfl):PS X (.Assign [tg] e pos) (tAsg te g):=by
 intro pins s σ H D I h
 refine wpAny_Assign_stores (thn (he pins s σ H _ I h) fun v s1 zz11=>?_) hs hw
 obtain⟨x,H1,I1,r1,q1⟩:=zz11
 rw[h1]
 exact thn (hg pins s1 σ H1 x v _ I1 r1 q1) fun _ s2 q=>q
end
section
variable{X:Cx}{pos:Pos}
def Y22(c:TT)(tb:TS):TS:=fun D σ H=>∃W:Nat→St→Hp→Prop,(∃m,W m σ H)∧∀m σ H,W m σ H→
 c σ H fun b H1=>if b=true then ∃N:St→Hp→Prop,(∀σ' H',N σ' H'→∃m',m'<m∧W m' σ' H')∧tb {D with nx:=N,ct:=N,bk:=D.nx} σ H1 else D.nx σ H1
theorem Zd7{c:Expr}{body:List Stmt}{tc:TT}{tb:TS}(hp:PassesOwn (model X.prog X.w) X.A X.env X.xe)(hc:PT X c tc)(hb:PSs X body tb):PS X (.While c body [] pos) (Y22 tc tb):=by
 intro pins s σ H D I h
 obtain⟨W,⟨m0,w0⟩,turn⟩:=h
 refine wpAny_While (codeAny_whileLoop (fun n s'=>∃σ' H',Inv X pins σ' H' s'∧W n σ' H') ?_ m0 ⟨σ,H,I,w0⟩)
 rintro n s1 ⟨σ1,H1,I1,w1⟩
 refine wpAny_passesOwn hp (thn (hc pins s1 σ1 H1 _ I1 (turn n σ1 H1 w1)) fun b s2 zz12=>?_)
 obtain⟨H2,I2,q2⟩:=zz12
 cases b with
 | true=>
  obtain⟨N,hN,q2⟩:=q2
  rw[if_pos rfl]
  refine wpAny_passesOwn hp (thn (hb pins s2 σ1 H2 _ I2 q2) fun f s3 q3=>?_)
  cases f with
  | next=>
   obtain⟨σ3,H3,I3,n3⟩:=q3
   obtain⟨m',hm,w3⟩:=hN σ3 H3 n3
   exact⟨m',hm,σ3,H3,I3,w3⟩
  | cont=>
   obtain⟨σ3,H3,I3,n3⟩:=q3
   obtain⟨m',hm,w3⟩:=hN σ3 H3 n3
   exact⟨m',hm,σ3,H3,I3,w3⟩
  | brk=>exact q3
  | ret v=>exact q3
 | false=>
  rw[if_neg Bool.false_ne_true]
  exact wpAny_execs_nil ⟨σ1,H2,I2,q2⟩
end
structure It where
 go:Nat→Hp→Prop
 yld:Nat→Hp→V→Hp→Prop
 stop:Nat→Hp→Prop
def FpOk(X:Cx)(pins:List (Addr×Obj))(H:Hp)(b:Addr):Prop:=
 H b=none∧b≠X.env.locals∧b∉X.fs∧(b∈X.ex∨X.s₀.heap.objs.size≤b)∧(∀x c,X.env.cells.lookup x=some c→c≠b)∧∀p∈X.pn++pins,p.1≠b
theorem Inv.fpOk{X:Cx}{pins:List (Addr×Obj)}{σ:St}{H H':Hp}{s:Shared}{b:Addr}(I:Inv X pins σ H s)(hb:s.heap.objs.size≤b)(hn:H' b=none):FpOk X pins H' b:=by
 refine⟨hn,Nat.ne_of_gt (Nat.lt_of_lt_of_le I.lt hb),I.nofs hb,.inr (Nat.le_trans I.sz hb),fun x c e z=>?_,fun p hp z=>?_⟩
 ·obtain⟨v,q⟩:=I.cell x c e
  exact absurd (Nat.lt_of_lt_of_le q.lt (by rw[z];exact hb)) (Nat.lt_irrefl _)
 ·exact absurd (Nat.lt_of_lt_of_le (Heap.lt_size (I.pin p hp).1) (by rw[z];exact hb)) (Nat.lt_irrefl _)
structure Turn(P:Program)(w:World)(K:PySem.W.Frag)(tg:Expr)(J:It)(fp:List Addr)(it:Addr)(tn:Nat→Heap→Prop):Prop where
 mem:it∈fp
 obj:∀i h,tn i h→∀b∈fp,∃o,h.get? b=some o∧∀v,o.data≠ .cell v
 keep:∀i h h',tn i h→(∀b∈fp,∀o,h.get? b=some o→h'.get? b=some o)→tn i h'
 item:∀(X:Cx),X.prog=P→X.w=w→X.K=K→X.calm=true→∀(i:Nat) (pins:List (Addr×Obj)) (s:Shared) (σ:St) (H:Hp) (E:Value→Shared→Prop),Inv X pins σ H s→(∀b∈fp,FpOk X pins H b)→tn i s.heap→J.go i H→
  wpAny (model P w) X.A (pyNext (.ref it)) (fun r s1=>∃u,r=some u∧
   wpAny (model P w) X.A (letOwnedTupleGo tg (.ref it) u) (fun _ s2=>∃x H',Inv X pins σ H' s2∧RelV x u∧J.yld i H x H'∧tn (i+1) s2.heap∧∀b∈fp,H' b=none) E s1) E s
 done:∀(X:Cx),X.prog=P→X.w=w→X.K=K→X.calm=true→∀(i:Nat) (pins:List (Addr×Obj)) (s:Shared) (σ:St) (H:Hp) (E:Value→Shared→Prop),Inv X pins σ H s→(∀b∈fp,FpOk X pins H b)→tn i s.heap→J.stop i H→
  wpAny (model P w) X.A (pyNext (.ref it)) (fun r s1=>r=none∧Inv X pins σ H s1) E s
 self:∀(A:Around) (i:Nat) (s:Shared) (Q:Value→Shared→Prop) (E:Value→Shared→Prop),tn i s.heap→Q (.ref it) s→wpAny (model P w) A (pyIter (.ref it)) Q E s
abbrev TI:=St→Hp→(It→Hp→Prop)→Prop
def PIE(X:Cx)(pins:List (Addr×Obj))(σ:St)(tg:Expr)(R:It→Hp→Prop)(itv:Value)(s2:Shared):Prop:=
 ∃(it:Addr) (fp:List Addr) (tn:Nat→Heap→Prop) (J:It) (H':Hp),itv= .ref it∧Inv X pins σ H' s2∧Turn X.prog X.w X.K tg J fp it tn∧tn 0 s2.heap∧(∀b∈fp,FpOk X pins H' b)∧R J H'
def PI(X:Cx)(tg iter:Expr)(wi:TI):Prop:=
 ∀(pins:List (Addr×Obj)) (s:Shared) (σ:St) (H:Hp) (R:It→Hp→Prop),Inv X pins σ H s→wi σ H R→
  wpAny (model X.prog X.w) X.A (eval iter X.env) (fun v s1=>wpAny (model X.prog X.w) X.A (pyIter v) (PIE X pins σ tg R) X.xe s1) X.xe s
theorem Zc2{M:Model}{A:Around}{E:Value→Shared→Prop}{s:Shared}{tg:Expr}{it:Addr}{u:Value}{o:Obj}{n:String}{vs:Array Value}{Q:Unit→Shared→Prop}(ho:s.heap.get? it=some o)(hc:o.cls= .type n)(hd:o.data= .fields vs)
  (hn:["enumerate","zip","dict_itemiterator","dict_reverseitemiterator","odict_iterator","itertools.zip_longest","itertools.pairwise"].contains n=false) (hQ:Q () s):wpAny M A (letOwnedTupleGo tg (.ref it) u) Q E s:=by
 unfold letOwnedTupleGo
 cases tg<;>first
  | exact wpAny_pure hQ
  |(cases u<;>first
    | exact wpAny_pure hQ
    |(refine wpAny_bind (wpAny_load ho ?_)
      rw[hc,hd]
      show wpAny M A (if (["enumerate","zip","dict_itemiterator","dict_reverseitemiterator","odict_iterator","itertools.zip_longest","itertools.pairwise"].contains n&&vs[0]?==some (rawInt _))=true then _ else _) Q E s
      rw[if_neg (by intro h;rw[hn,Bool.false_and] at h;cases h)]
      exact wpAny_pure hQ))
noncomputable def Itl(K:PySem.W.Frag)(a:Addr):It:=
 ⟨fun i H=>∃xs x,SqL K H a xs∧xs[i]?=some x,fun i H x H'=>H'=H∧∀xs,SqL K H a xs→xs[i]?=some x,fun i H=>∃xs,SqL K H a xs∧xs.length≤i⟩
noncomputable def Itt(K:PySem.W.Frag)(a:Addr):It:=
 ⟨fun i H=>∃xs x,SqT K H a xs∧xs[i]?=some x,fun i H x H'=>H'=H∧∀xs,SqT K H a xs→xs[i]?=some x,fun i H=>∃xs,SqT K H a xs∧xs.length≤i⟩
noncomputable def Itr(lo:Int)(n:Nat):It:=⟨fun i _=>i<n,fun i H x H'=>H'=H∧x= .int (lo+i),fun i _=>n≤i⟩
theorem Z35{P:Program}{w:World}{K:PySem.W.Frag}{tg:Expr}(a it:Addr):Turn P w K tg (Itl K a) [it] it (fun i h=>h.IsListIter it a i) where
 mem:=by simp
 obj:=fun i h st b hb=>by
  have e:b=it:=by simpa using hb
  subst e
  obtain⟨o,e,c,d⟩:=st
  exact⟨o,e,fun v z=>by rw[d] at z;cases z⟩
 keep:=fun i h h' st k=>st.at fun o e=>k it (by simp) o e
 item:=by
  intro X hP hw hK hc i pins s σ H E I hf st hg
  subst hP hw hK
  obtain⟨xs,x,hq,hx⟩:=hg
  obtain⟨its,rv,p,hz⟩:=I.list hq
  obtain⟨u,hu,ru⟩:=rv.get hx
  obtain⟨f0,f1,f2,f3,f4,f5⟩:=hf it (by simp)
  refine wpAny_pyNext_list_item st p.isList (x:=u) (by simpa using hu) fun h' st' sb=>?_
  have I1:Inv X pins σ H {s with heap:=h'}:=I.turned (t':=s.toks) (fun b o hb e=>(sb.2 b hb).trans e) f0 f1 f3 f4 f5
  obtain⟨o,e,c,d⟩:=id st'
  exact⟨u,rfl,Zc2 (s:={s with heap:=h'}) e c d (by decide) ⟨x,H,I1,ru,⟨rfl,fun ys hy=>by rw[I.list_inj hy hq];exact hx⟩,st',fun b hb=>(hf b hb).1⟩⟩
 done:=by
  intro X hP hw hK hc i pins s σ H E I hf st hg
  subst hP hw hK
  obtain⟨xs,hq,hx⟩:=hg
  obtain⟨its,rv,p,hz⟩:=I.list hq
  obtain⟨f0,f1,f2,f3,f4,f5⟩:=hf it (by simp)
  have hl:=rv.length
  exact wpAny_pyNext_list_end (I.ok.hd hc) st p.isList (by simp;omega) fun h' eb=>⟨rfl,I.turned (t':=s.toks) (fun b o hb e=>eb b o hb e) f0 f1 f3 f4 f5⟩
 self:=fun _ _ _ _ _ st h=>wpAny_pyIter_listiter st h
theorem C5{P:Program}{w:World}{K:PySem.W.Frag}{tg:Expr}(a it:Addr):Turn P w K tg (Itt K a) [it] it (fun i h=>h.IsTupleIter it a i) where
 mem:=by simp
 obj:=fun i h st b hb=>by
  have e:b=it:=by simpa using hb
  subst e
  obtain⟨o,e,c,d⟩:=st
  exact⟨o,e,fun v z=>by rw[d] at z;cases z⟩
 keep:=fun i h h' st k=>st.at fun o e=>k it (by simp) o e
 item:=by
  intro X hP hw hK hc i pins s σ H E I hf st hg
  subst hP hw hK
  obtain⟨xs,x,hq,hx⟩:=hg
  obtain⟨its,rv,p,hz⟩:=I.tuple hq
  obtain⟨u,hu,ru⟩:=rv.get hx
  obtain⟨f0,f1,f2,f3,f4,f5⟩:=hf it (by simp)
  refine wpAny_pyNext_tuple_item st (show s.heap.IsTuple a its.toArray from p) (x:=u) (by simpa using hu) fun h' st' sb=>?_
  have I1:Inv X pins σ H {s with heap:=h'}:=I.turned (t':=s.toks) (fun b o hb e=>(sb.2 b hb).trans e) f0 f1 f3 f4 f5
  obtain⟨o,e,c,d⟩:=id st'
  exact⟨u,rfl,Zc2 (s:={s with heap:=h'}) e c d (by decide) ⟨x,H,I1,ru,⟨rfl,fun ys hy=>by rw[I.tuple_inj hy hq];exact hx⟩,st',fun b hb=>(hf b hb).1⟩⟩
 done:=by
  intro X hP hw hK hc i pins s σ H E I hf st hg
  subst hP hw hK
  obtain⟨xs,hq,hx⟩:=hg
  obtain⟨its,rv,p,hz⟩:=I.tuple hq
  obtain⟨f0,f1,f2,f3,f4,f5⟩:=hf it (by simp)
  have hl:=rv.length
  exact wpAny_pyNext_tuple_end (I.ok.hd hc) st (show s.heap.IsTuple a its.toArray from p) (by simp;omega) fun h' eb=>⟨rfl,I.turned (t':=s.toks) (fun b o hb e=>eb b o hb e) f0 f1 f3 f4 f5⟩
 self:=fun _ _ _ _ _ st h=>wpAny_pyIter_tupleiter st h
theorem C8{P:Program}{w:World}{K:PySem.W.Frag}{tg:Expr}(it:Addr)(lo:Int)(n:Nat):Turn P w K tg (Itr lo n) [it] it (fun i h=>IsRangeIter h it (lo+(i:Nat) * 1) ((n:Int) - (i:Nat)) 1) where
 mem:=by simp
 obj:=fun i h st b hb=>by
  have e:b=it:=by simpa using hb
  subst e
  exact⟨_,st,fun v z=>by
   have z':Data.fields _=Data.cell v:=z
   cases z'⟩
 keep:=fun i h h' st k=>k it (by simp) _ st
 item:=by
  intro X hP hw hK hc i pins s σ H E I hf st hg
  subst hP hw hK
  obtain⟨f0,f1,f2,f3,f4,f5⟩:=hf it (by simp)
  have W:=Walks.range (prog:=X.prog) (w:=X.w) (I.ok.hd hc) it lo 1 n
  refine W.item i s _ _ hg st fun v h' tk hv st' kk=>?_
  obtain⟨t,rfl⟩:=hv
  have I1:Inv X pins σ H {s with heap:=h',toks:=tk}:=I.turned (fun b o hb e=>kk b o (by simpa using hb) e) f0 f1 f3 f4 f5
  refine⟨_,rfl,Zc2 (s:={s with heap:=h',toks:=tk}) (n:="range_iterator") st' rfl rfl (by decide) ⟨.int (lo+i),H,I1,⟨t,?_⟩,⟨rfl,rfl⟩,st',fun b hb=>(hf b hb).1⟩⟩
  rw[Int.mul_one]
 done:=by
  intro X hP hw hK hc i pins s σ H E I hf st hg
  subst hP hw hK
  obtain⟨f0,f1,f2,f3,f4,f5⟩:=hf it (by simp)
  exact wpAny_pyNext_range_end (I.ok.hd hc) st (by have:n≤i:=hg;omega) fun h' eb=>⟨rfl,I.turned (t':=s.toks) (fun b o hb e=>eb b o hb e) f0 f1 f3 f4 f5⟩
 self:=fun _ _ _ _ _ st h=>wpAny_pyIter_rangeiter st h
section
variable{X:Cx}{tg:Expr}
theorem Fo{pins:List (Addr×Obj)}{σ:St}{H:Hp}{s:Shared}{R:It→Hp→Prop}{E:Value→Shared→Prop}{lo hi:Int}{t u v:Tok}{tk:Nat}(I:Inv X pins σ H s)(h1:-(2 ^ 62)≤lo)(h2:lo<2 ^ 62)(h3:-(2 ^ 62)≤hi)(h4:hi<2 ^ 62)
  (q:R (Itr lo (hi - lo).toNat) H):wpAny (model X.prog X.w) X.A (pyIter (.ref s.heap.objs.size)) (PIE X pins σ tg R) E {s with heap:=s.heap.push {cls:= .type "range",data:= .fields #[.int lo t,.int hi u,.int 1 v]},toks:=tk}:=by
 refine wpAny_pyIter_range (IsRange.new ..) (small_one h1 h2 h3 h4) ?_
 have I1:Inv X pins σ H {s with heap:=s.heap.push {cls:= .type "range",data:= .fields #[.int lo t,.int hi u,.int 1 v]},toks:=tk}:=I.kept fun b o e=>Heap.get?_push_of_some _ e
 refine⟨(s.heap.push {cls:= .type "range",data:= .fields #[.int lo t,.int hi u,.int 1 v]}).objs.size,[(s.heap.push {cls:= .type "range",data:= .fields #[.int lo t,.int hi u,.int 1 v]}).objs.size],_,_,H,rfl,
  I1.kept (t':=tk) fun b o e=>Heap.get?_push_of_some _ e,C8 _ lo (hi - lo).toNat,?_,fun b hb=>?_,q⟩
 ·have e1:lo+((0:Nat):Int) * 1=lo:=by simp
  have e2:(((hi - lo).toNat:Nat):Int) - ((0:Nat):Int)=Builtin.Range.rangeSize lo hi 1:=by rw[rangeSize_one];split<;>omega
  show IsRangeIter _ _ (lo+((0:Nat):Int) * 1) ((((hi - lo).toNat:Nat):Int) - ((0:Nat):Int)) 1
  rw[e1,e2]
  exact Heap.get?_push_size _ rfl
 ·have e:b=(s.heap.push {cls:= .type "range",data:= .fields #[.int lo t,.int hi u,.int 1 v]}).objs.size:=by simpa using hb
  subst e
  exact I1.fpOk (Nat.le_refl _) (I1.hok.fresh (Nat.le_refl _))
def Y77(ta:TA):TI:=fun σ H R=>ta σ H fun vs H1=>∃j:Int,vs=[.int j]∧ -(2 ^ 62)≤j∧j<2 ^ 62∧R (Itr 0 j.toNat) H1
def Y85(ta:TA):TI:=fun σ H R=>ta σ H fun vs H1=>∃i j:Int,vs=[.int i,.int j]∧(-(2 ^ 62)≤i∧i<2 ^ 62∧ -(2 ^ 62)≤j∧j<2 ^ 62)∧R (Itr i (j - i).toNat) H1
theorem Z95{a:Expr}{ta:TA}{p pos:Pos}(hg:Gl X "range")(hm:X.mg "range"=none)(ha:PA X [a] ta)(hs:starEach [a] X.env=[(false,eval a X.env)]:=by rfl):PI X tg (.Call (.Name "range" p) [a] [] pos) (Y77 ta):=by
 intro pins s σ H R I h
 refine Call_ (Q3 I hg hm boot_range (PyProof.Rows.callWith_type1 (thn (ha pos pins s σ H _ I h) fun us s1 zz13=>?_) hs rfl))
 obtain⟨vs,H1,I1,r1,q1⟩:=zz13
 obtain⟨j,e,q1,q2,q⟩:=q1
 subst e
 cases r1 with
 | cons r rr=>
  cases rr
  obtain⟨t,rfl⟩:=r
  exact call_range_1 (Fo I1 (by omega) (by omega) q1 q2 (by simpa using q))
theorem Z80{a b:Expr}{ta:TA}{p pos:Pos}(hg:Gl X "range")(hm:X.mg "range"=none)(ha:PA X [a,b] ta)(hs:starEach [a,b] X.env=[(false,eval a X.env),(false,eval b X.env)]:=by rfl)(hs2:starEach [b] X.env=[(false,eval b X.env)]:=by rfl):
  PI X tg (.Call (.Name "range" p) [a,b] [] pos) (Y85 ta):=by
 intro pins s σ H R I h
 refine Call_ (Q3 I hg hm boot_range (PyProof.Rows.callWith_type1 (thn (ha pos pins s σ H _ I h) fun us s1 zz14=>?_) (by rw[hs,hs2]) (by rw[hs2];rfl)))
 obtain⟨vs,H1,I1,r1,q1⟩:=zz14
 obtain⟨i,j,e,⟨q1,q2,q3,q4⟩,q⟩:=q1
 subst e
 cases r1 with
 | cons r rr=>
  cases rr with
  | cons r' rr=>
   cases rr
   obtain⟨t,rfl⟩:=r
   obtain⟨t',rfl⟩:=r'
   exact call_range_2 (Fo I1 q1 q2 q3 q4 q)
def tFor(wi:TI)(g:TG)(tb:TS):TS:=fun D σ H=>wi σ H fun J H1=>∃W:Nat→Nat→St→Hp→Prop,(∃m,W 0 m σ H1)∧∀i m σ H,W i m σ H→
 (J.stop i H∧D.nx σ H)∨(J.go i H∧∃N:St→Hp→Prop,(∀σ' H',N σ' H'→∃m',m'<m∧W (i+1) m' σ' H')∧∀x H',J.yld i H x H'→g x σ H' fun σ2 H2=>tb {D with nx:=N,ct:=N,bk:=D.nx} σ2 H2)
noncomputable def Fz(fp:List Addr)(h:Heap):List (Addr×Obj):=fp.filterMap fun b=>(h.get? b).map fun o=>(b,o)
theorem X3{fp:List Addr}{h:Heap}{b:Addr}{o:Obj}(hb:b∈fp)(e:h.get? b=some o):(b,o)∈Fz fp h:=List.mem_filterMap.mpr ⟨b,hb,by rw[e];rfl⟩
theorem Za1{fp:List Addr}{h:Heap}{p:Addr×Obj}(hp:p∈Fz fp h):p.1∈fp∧h.get? p.1=some p.2:=by
 obtain⟨b,hb,e⟩:=List.mem_filterMap.mp hp
 cases q:h.get? b with
 | none=>rw[q] at e;cases e
 | some o=>
  rw[q] at e
  have e':(b,o)=p:=Option.some.inj e
  subst e'
  exact⟨hb,q⟩
theorem Inv.pinned{pins:List (Addr×Obj)}{σ:St}{H:Hp}{s:Shared}{fp:List Addr}(I:Inv X pins σ H s)(hf:∀b∈fp,FpOk X pins H b)(ho:∀b∈fp,∃o,s.heap.get? b=some o∧∀v,o.data≠ .cell v):Inv X (pins++Fz fp s.heap) σ H s:=
 I.pins_of fun p hp=>(List.mem_append.mp hp).elim (fun z=>I.pin p (List.mem_append_right _ z)) fun z=>by
  obtain⟨hb,e⟩:=Za1 z
  obtain⟨f0,f1,f2,_⟩:=hf p.1 hb
  obtain⟨o,e',d⟩:=ho p.1 hb
  rw[e] at e';cases e'
  exact⟨e,f0,f1,f2,d⟩
theorem Inv.unpinned{pins pl:List (Addr×Obj)}{σ:St}{H:Hp}{s:Shared}(I:Inv X (pins++pl) σ H s):Inv X pins σ H s:=I.pins_of fun p hp=>I.pin p (List.mem_append_right _ (List.mem_append_left _ hp))
theorem Zk9{iter:Expr}{body:List Stmt}{wi:TI}{g:TG}{tb:TS}{pos:Pos}(hp:PassesOwn (model X.prog X.w) X.A X.env X.xe)(hc:X.calm=true)(hi:PI X tg iter wi)(hg:PG X tg g)(hb:PSs X body tb)
  (hs:∀x,foldedSetIterable iter X.env x=pure x:=by intro _;rfl):PS X (.For tg iter body [] pos) (tFor wi g tb):=by
 intro pins s σ H D I h
 refine wpAny_For (thn (hi pins s σ H _ I h) fun v s1 h1=>thn h1 fun itv s2 h2=>?_) hs
 obtain⟨it,fp,tn,J,H2,e,I2,T,st2,f2,W,⟨m0,w0⟩,turn⟩:=h2
 subst e
 have stat:∀{H':Hp},(∀b∈fp,H' b=none)→∀b∈fp,FpOk X pins H' b:=fun hn b hb=>⟨hn b hb,(f2 b hb).2⟩
 refine codeAny_forLoop_any (fun n s'=>∃i σ' H',Inv X pins σ' H' s'∧tn i s'.heap∧(∀b∈fp,H' b=none)∧W i n σ' H') ?_ m0 ⟨0,σ,H2,I2,st2,fun b hb=>(f2 b hb).1,w0⟩
 rintro n s3 ⟨i,σ3,H3,I3,st3,fr3,w3⟩
 rcases turn i n σ3 H3 w3 with⟨stop,qn⟩ | ⟨go,N,hN,step⟩
 ·refine wpAny_passesOwn hp (thn (T.done X rfl rfl rfl hc i pins s3 σ3 H3 X.xe I3 (stat fr3) st3 stop) fun r s4 zz15=>?_)
  obtain⟨hr,I4⟩:=zz15
  subst hr
  exact wpAny_execs_nil ⟨σ3,H3,I4,qn⟩
 ·refine wpAny_passesOwn hp (thn (T.item X rfl rfl rfl hc i pins s3 σ3 H3 X.xe I3 (stat fr3) st3 go) fun r s4 zz16=>?_)
  obtain⟨u,hr,h4⟩:=zz16
  subst hr
  refine wpAny_passesOwn hp (thn h4 fun _ s5 zz17=>?_)
  obtain⟨x,H5,I5,r5,y5,st5,fr5⟩:=zz17
  have I5':=I5.pinned (stat fr5) (T.obj _ _ st5)
  refine wpAny_passesOwn hp (thn (hg _ s5 σ3 H5 x u _ I5' r5 (step x H5 y5)) fun _ s6 zz18=>?_)
  obtain⟨σ6,H6,I6,q6⟩:=zz18
  refine wpAny_passesOwn hp (thn (hb _ s6 σ6 H6 _ I6 q6) fun f s7 q7=>?_)
  have again:∀{σ7:St} {H7:Hp},Inv X (pins++Fz fp s5.heap) σ7 H7 s7→N σ7 H7→∃m,m<n∧∃i σ' H',Inv X pins σ' H' s7∧tn i s7.heap∧(∀b∈fp,H' b=none)∧W i m σ' H':=fun{σ7 H7} I7 n7=>by
   obtain⟨m',hm,w7⟩:=hN σ7 H7 n7
   refine⟨m',hm,i+1,σ7,H7,I7.unpinned,T.keep _ _ _ st5 fun b hb o e=>(I7.pin (b,o) (List.mem_append_right _ (List.mem_append_right _ (X3 hb e)))).1,fun b hb=>?_,w7⟩
   obtain⟨o,e,d⟩:=T.obj _ _ st5 b hb
   exact(I7.pin (b,o) (List.mem_append_right _ (List.mem_append_right _ (X3 hb e)))).2.1
  cases f with
  | next=>obtain⟨σ7,H7,I7,n7⟩:=q7;exact again I7 n7
  | cont=>obtain⟨σ7,H7,I7,n7⟩:=q7;exact again I7 n7
  | brk=>obtain⟨σ7,H7,I7,q7⟩:=q7;exact⟨σ7,H7,I7.unpinned,q7⟩
  | ret v=>obtain⟨x7,σ7,H7,I7,r7,q7⟩:=q7;exact⟨x7,σ7,H7,I7.unpinned,r7,q7⟩
end
abbrev R2:=V→V→Hp→VK→Prop
def OpR(X:Cx)(f:Value→Value→Sem Value)(r:R2):Prop:=
 ∀(pins:List (Addr×Obj)) (s:Shared) (σ:St) (H:Hp) (x y:V) (v u:Value) (Q:VK),Inv X pins σ H s→RelV x v→RelV y u→r x y H Q→
  wpAny (model X.prog X.w) X.A (f v u) (EP X pins σ Q) X.xe s
def UnR(X:Cx)(f:Value→Sem Value)(r:V→Hp→VK→Prop):Prop:=
 ∀(pins:List (Addr×Obj)) (s:Shared) (σ:St) (H:Hp) (x:V) (v:Value) (Q:VK),Inv X pins σ H s→RelV x v→r x H Q→
  wpAny (model X.prog X.w) X.A (f v) (EP X pins σ Q) X.xe s
def Vq(X:Cx)(f:Value)(r:List V→Hp→VK→Prop):Prop:=
 ∀(pins:List (Addr×Obj)) (s:Shared) (σ:St) (H:Hp) (xs:List V) (us:List Value) (Q:VK),Inv X pins σ H s→Vals xs us→r xs H Q→
  wpAny (model X.prog X.w) X.A (call f us) (EP X pins σ Q) X.xe s
def TruR(X:Cx)(r:V→Hp→(Bool→Hp→Prop)→Prop):Prop:=
 ∀(pins:List (Addr×Obj)) (s:Shared) (σ:St) (H:Hp) (x:V) (v:Value) (Q:Bool→Hp→Prop),Inv X pins σ H s→RelV x v→r x H Q→
  wpAny (model X.prog X.w) X.A (truthy v) (TP X pins σ Q) X.xe s
def tOp(r:R2)(ta tb:TE):TE:=fun σ H Q=>ta σ H fun x H1=>tb σ H1 fun y H2=>r x y H2 Q
def tUn(r:V→Hp→VK→Prop)(ta:TE):TE:=fun σ H Q=>ta σ H fun x H1=>r x H1 Q
def rI(C:Int→Int→Prop)(g:Int→Int→V):R2:=fun x y H Q=>∃i j,x= .int i∧y= .int j∧C i j∧Q (g i j) H
def rI0(g:Int→Int→V):R2:=fun x y H Q=>∃i j,x= .int i∧y= .int j∧Q (g i j) H
def rU(g:Int→V):V→Hp→VK→Prop:=fun x H Q=>∃i,x= .int i∧Q (g i) H
section
variable{X:Cx}{a b c:Expr}{ta tb tc:TE}{pos:Pos}
theorem binT(ha:PE X a ta)(hb:PE X b tb){pins:List (Addr×Obj)}{s:Shared}{σ:St}{H:Hp}{R:V→V→Hp→Prop}(I:Inv X pins σ H s)
  (h:ta σ H fun x H1=>tb σ H1 fun y H2=>R x y H2) {Q:Value→Shared→Prop} {f:Value→Value→Sem Value}
  (hf:∀v u s2 x y H2,Inv X pins σ H2 s2→RelV x v→RelV y u→R x y H2→wpAny (model X.prog X.w) X.A (f v u) Q X.xe s2):
  wpAny (model X.prog X.w) X.A (eval a X.env) (fun v s₁=>wpAny (model X.prog X.w) X.A (eval b X.env) (fun u s₂=>wpAny (model X.prog X.w) X.A (f v u) Q X.xe s₂) X.xe s₁) X.xe s:=by
 refine thn (ha pins s σ H _ I h) fun v s1 zz19=>?_
 obtain⟨x,H1,I1,r1,q1⟩:=zz19
 refine thn (hb pins s1 σ H1 _ I1 q1) fun u s2 zz20=>?_
 obtain⟨y,H2,I2,r2,q2⟩:=zz20
 exact hf v u s2 x y H2 I2 r1 r2 q2
theorem Y80{op:Operator}{r:R2}(ho:OpR X (binaryOp op) r)(ha:PE X a ta)(hb:PE X b tb):PE X (.BinOp a op b pos) (tOp r ta tb):=by
 intro pins s σ H Q I h
 exact wpAny_BinOp (binT ha hb I h fun v u s2 x y H2 I2 rx ry q=>ho pins s2 σ H2 x y v u Q I2 rx ry q)
theorem Y31{op:UnaryOp}{r:V→Hp→VK→Prop}(ho:UnR X (unaryOp op) r)(ha:PE X a ta):PE X (.UnaryOp op a pos) (tUn r ta):=by
 intro pins s σ H Q I h
 exact UnaryOp_ (thn (ha pins s σ H _ I h) fun v s1 zz21=>by obtain⟨x,H1,I1,r1,q1⟩:=zz21;exact ho pins s1 σ H1 x v Q I1 r1 q1)
theorem opI{f:Value→Value→Sem Value}{C:Int→Int→Prop}{g:Int→Int→Int}
  (rule:∀(i j:Int) (t u:Tok) (s:Shared) (Q:Value→Shared→Prop) (E:Value→Shared→Prop),C i j→Q (.int (g i j) s.toks) {s with toks:=s.toks+1}→wpAny (model X.prog X.w) X.A (f (.int i t) (.int j u)) Q E s):
  OpR X f (rI C fun i j=> .int (g i j)):=by
 intro pins s σ H x y v u Q I rx ry h
 obtain⟨i,j,rfl,rfl,hc,q⟩:=h
 obtain⟨t,rfl⟩:=rx
 obtain⟨t',rfl⟩:=ry
 exact rule i j t t' s _ _ hc ⟨.int (g i j),H,I.tok _,⟨_,rfl⟩,q⟩
theorem opI0{f:Value→Value→Sem Value}{g:Int→Int→Int}
  (rule:∀(i j:Int) (t u:Tok) (s:Shared) (Q:Value→Shared→Prop) (E:Value→Shared→Prop),Q (.int (g i j) s.toks) {s with toks:=s.toks+1}→wpAny (model X.prog X.w) X.A (f (.int i t) (.int j u)) Q E s):
  OpR X f (rI0 fun i j=> .int (g i j)):=by
 intro pins s σ H x y v u Q I rx ry h
 obtain⟨i,j,rfl,rfl,q⟩:=h
 obtain⟨t,rfl⟩:=rx
 obtain⟨t',rfl⟩:=ry
 exact rule i j t t' s _ _ ⟨.int (g i j),H,I.tok _,⟨_,rfl⟩,q⟩
theorem opB0{f:Value→Value→Sem Value}{g:Int→Int→Bool}
  (rule:∀(i j:Int) (t u:Tok) (s:Shared) (Q:Value→Shared→Prop) (E:Value→Shared→Prop),Q (.bool (g i j)) s→wpAny (model X.prog X.w) X.A (f (.int i t) (.int j u)) Q E s):
  OpR X f (rI0 fun i j=> .bl (g i j)):=by
 intro pins s σ H x y v u Q I rx ry h
 obtain⟨i,j,rfl,rfl,q⟩:=h
 obtain⟨t,rfl⟩:=rx
 obtain⟨t',rfl⟩:=ry
 exact rule i j t t' s _ _ ⟨.bl (g i j),H,I,rfl,q⟩
def CPow(i j:Int):Prop:=0≤j∧j≤1000000∧i.natAbs<2 ^ 64
def CMul(i j:Int):Prop:=(-(2 ^ 64)<i∧i<2 ^ 64)∨(-(2 ^ 64)<j∧j<2 ^ 64)
theorem CMul.ok{i j:Int}(h:CMul i j):IntMulOk i j:=by
 rcases h with⟨h1,h2⟩ | ⟨h1,h2⟩
 ·exact .of_left (intBits_le_64 h1 h2)
 ·exact .of_right (intBits_le_64 h1 h2)
theorem Y28:OpR X (binaryOp .Add) (rI0 fun i j=> .int (i+j)):=opI0 fun _ _ _ _ _ _ _ q=>add_int q
theorem Zz7:OpR X (binaryOp .Sub) (rI0 fun i j=> .int (i - j)):=opI0 fun _ _ _ _ _ _ _ q=>sub_int q
theorem Zt4:OpR X (binaryOp .Mod) (rI (fun _ j=>j≠0) fun i j=> .int (i.fmod j)):=opI fun _ _ _ _ _ _ _ hc q=>mod_int' hc q
theorem Y09:OpR X (binaryOp .Pow) (rI CPow fun i j=> .int (i ^ j.toNat)):=opI fun _ _ _ _ _ _ _ hc q=>pow_int_small hc.1 hc.2.1 hc.2.2 q
theorem Y14:OpR X (binaryOp .BitAnd) (rI0 fun i j=> .int (Builtin.bitAnd i j)):=opI0 fun _ _ _ _ _ _ _ q=>and_int q
theorem Y27:OpR X (binaryOp .BitXor) (rI0 fun i j=> .int (Builtin.bitXor i j)):=opI0 fun _ _ _ _ _ _ _ q=>xor_int q
theorem unI{f:Value→Sem Value}{g:Int→Int}
  (rule:∀(i:Int) (t:Tok) (s:Shared) (Q:Value→Shared→Prop) (E:Value→Shared→Prop),Q (.int (g i) s.toks) {s with toks:=s.toks+1}→wpAny (model X.prog X.w) X.A (f (.int i t)) Q E s):
  UnR X f (rU fun i=> .int (g i)):=by
 intro pins s σ H x v Q I rx h
 obtain⟨i,rfl,q⟩:=h
 obtain⟨t,rfl⟩:=rx
 exact rule i t s _ _ ⟨.int (g i),H,I.tok _,⟨_,rfl⟩,q⟩
theorem Zl9:UnR X (unaryOp .USub) (rU fun i=> .int (-i)):=unI fun _ _ _ _ _ q=>neg_int q
end
noncomputable def scal:V→V→Bool
 | .non,.non=>true | .non,.int _=>true | .int _,.non=>true | .non,.bl _=>true | .bl _,.non=>true | .non,.str _=>true | .str _,.non=>true
 | .int _,.int _=>true | .bl _,.bl _=>true | .str _,.str _=>true | .byt _,.byt _=>true
 | .int _,.str _=>true | .str _,.int _=>true | .bl _,.str _=>true | .str _,.bl _=>true
 | _,_=>false
def rEq:R2:=fun x y H Q=>scal x y=true∧Q (.bl (decide (x=y))) H
def rNe:R2:=fun x y H Q=>scal x y=true∧Q (.bl (!decide (x=y))) H
theorem Z97{i j:Int}:decide (V.int i=V.int j)=(i==j):=by
 rw[Bool.eq_iff_iff]
 simp
theorem Zm1{i j:Bool}:decide (V.bl i=V.bl j)=(i==j):=by
 rw[Bool.eq_iff_iff]
 simp
theorem Z47{i j:Str}:decide (V.str i=V.str j)=(i==j):=by
 rw[Bool.eq_iff_iff]
 simp
theorem Z03{i j:Array UInt8}:decide (V.byt i=V.byt j)=(i.toList==j.toList):=by
 rw[Bool.eq_iff_iff]
 cases i
 cases j
 simp
section
variable{X:Cx}{a b c:Expr}{ta tb tc:TE}{pos:Pos}
theorem Zw{pins:List (Addr×Obj)}{σ:St}{H:Hp}{s:Shared}{Q:VK}{k k':Bool}(I:Inv X pins σ H s)(q:Q (.bl k) H)(e:k=k'):EP X pins σ Q (.bool k') s:=by
 subst e
 exact⟨.bl k,H,I,rfl,q⟩
theorem Y67:OpR X (compareOp .Eq) rEq:=by
 intro pins s σ H x y v u Q I rx ry h
 obtain⟨hs,q⟩:=h
 cases x with
 | non=>
  cases rx
  cases y with
  | non=>cases ry;exact PySem.EqNone.eq_none_none (Zw I q (by simp))
  | bl j=>cases ry;exact PySem.EqNone.eq_none_bool (Zw I q (by simp))
  | int j=>obtain⟨t',rfl⟩:=ry;exact PySem.EqNone.eq_none_int (Zw I q (by simp))
  | str j=>obtain⟨t',rfl⟩:=ry;exact PySem.EqNone.eq_none_str (Zw I q (by simp))
  | _=>exact absurd (show false=true from hs) Bool.false_ne_true
 | bl i=>
  cases rx
  cases y with
  | non=>cases ry;exact PySem.EqNone.eq_bool_none (Zw I q (by simp))
  | bl j=>cases ry;exact eq_bool (Zw I q Zm1)
  | str j=>obtain⟨t',rfl⟩:=ry;exact PySem.EqMixed.eq_bool_str (Zw I q (by simp))
  | _=>exact absurd (show false=true from hs) Bool.false_ne_true
 | int i=>
  obtain⟨t,rfl⟩:=rx
  cases y with
  | non=>cases ry;exact PySem.EqNone.eq_int_none (Zw I q (by simp))
  | int j=>obtain⟨t',rfl⟩:=ry;exact eq_int (Zw I q Z97)
  | str j=>obtain⟨t',rfl⟩:=ry;exact PySem.EqMixed.eq_int_str (Zw I q (by simp))
  | _=>exact absurd (show false=true from hs) Bool.false_ne_true
 | str i=>
  obtain⟨t,rfl⟩:=rx
  cases y with
  | non=>cases ry;exact PySem.EqNone.eq_str_none (Zw I q (by simp))
  | bl j=>cases ry;exact PySem.EqMixed.eq_str_bool (Zw I q (by simp))
  | int j=>obtain⟨t',rfl⟩:=ry;exact PySem.EqMixed.eq_str_int (Zw I q (by simp))
  | str j=>obtain⟨t',rfl⟩:=ry;exact eq_str (Zw I q Z47)
  | _=>exact absurd (show false=true from hs) Bool.false_ne_true
 | byt i=>
  obtain⟨t,rfl⟩:=rx
  cases y with
  | byt j=>obtain⟨t',rfl⟩:=ry;exact PySem.W.eq_bytes (Zw I q Z03)
  | _=>exact absurd (show false=true from hs) Bool.false_ne_true
 | _=>cases y<;>exact absurd (show false=true from hs) Bool.false_ne_true
theorem Y82:OpR X (compareOp .NotEq) rNe:=by
 intro pins s σ H x y v u Q I rx ry h
 obtain⟨hs,q⟩:=h
 cases x with
 | non=>
  cases rx
  cases y with
  | non=>cases ry;exact PySem.EqNone.ne_none_none (Zw I q (by simp))
  | bl j=>cases ry;exact PySem.EqNone.ne_none_bool (Zw I q (by simp))
  | int j=>obtain⟨t',rfl⟩:=ry;exact PySem.EqNone.ne_none_int (Zw I q (by simp))
  | str j=>obtain⟨t',rfl⟩:=ry;exact PySem.EqNone.ne_none_str (Zw I q (by simp))
  | _=>exact absurd (show false=true from hs) Bool.false_ne_true
 | bl i=>
  cases rx
  cases y with
  | non=>cases ry;exact PySem.EqNone.ne_bool_none (Zw I q (by simp))
  | bl j=>cases ry;exact ne_bool (Zw I q (congrArg not Zm1))
  | str j=>obtain⟨t',rfl⟩:=ry;exact PySem.EqMixed.ne_bool_str (Zw I q (by simp))
  | _=>exact absurd (show false=true from hs) Bool.false_ne_true
 | int i=>
  obtain⟨t,rfl⟩:=rx
  cases y with
  | non=>cases ry;exact PySem.EqNone.ne_int_none (Zw I q (by simp))
  | int j=>obtain⟨t',rfl⟩:=ry;exact ne_int (Zw I q (congrArg not Z97))
  | str j=>obtain⟨t',rfl⟩:=ry;exact PySem.EqMixed.ne_int_str (Zw I q (by simp))
  | _=>exact absurd (show false=true from hs) Bool.false_ne_true
 | str i=>
  obtain⟨t,rfl⟩:=rx
  cases y with
  | non=>cases ry;exact PySem.EqNone.ne_str_none (Zw I q (by simp))
  | bl j=>cases ry;exact PySem.EqMixed.ne_str_bool (Zw I q (by simp))
  | int j=>obtain⟨t',rfl⟩:=ry;exact PySem.EqMixed.ne_str_int (Zw I q (by simp))
  | str j=>obtain⟨t',rfl⟩:=ry;exact ne_str (Zw I q (congrArg not Z47))
  | _=>exact absurd (show false=true from hs) Bool.false_ne_true
 | byt i=>
  obtain⟨t,rfl⟩:=rx
  cases y with
  | byt j=>obtain⟨t',rfl⟩:=ry;exact PySem.W.ne_bytes (Zw I q (congrArg not Z03))
  | _=>exact absurd (show false=true from hs) Bool.false_ne_true
 | _=>cases y<;>exact absurd (show false=true from hs) Bool.false_ne_true
theorem Y98:OpR X (compareOp .Lt) (rI0 fun i j=> .bl (decide (i<j))):=opB0 fun _ _ _ _ _ _ _ q=>lt_int q
theorem Y71:OpR X (compareOp .LtE) (rI0 fun i j=> .bl (decide (i≤j))):=opB0 fun _ _ _ _ _ _ _ q=>le_int q
theorem Y68:OpR X (compareOp .Gt) (rI0 fun i j=> .bl (decide (j<i))):=opB0 fun _ _ _ _ _ _ _ q=>gt_int q
theorem Y96:OpR X (compareOp .GtE) (rI0 fun i j=> .bl (decide (j≤i))):=opB0 fun _ _ _ _ _ _ _ q=>ge_int q
theorem Z87:OpR X (compareOp .In) (fun x y H Q=>∃i j,x= .str i∧y= .str j∧Q (.bl (!(Builtin.Str.occurrences j i 0 j.length 1).isEmpty)) H):=by
 intro pins s σ H x y v u Q I rx ry h
 obtain⟨i,j,rfl,rfl,q⟩:=h
 obtain⟨t,rfl⟩:=rx
 obtain⟨t',rfl⟩:=ry
 exact in_str (Zw I q rfl)
theorem Q4:OpR X (compareOp .Is) (fun x y H Q=>y= .non∧Q (.bl (decide (x= .non))) H):=by
 intro pins s σ H x y v u Q I rx ry h
 obtain⟨rfl,q⟩:=h
 cases ry
 refine is_none_gen (Zw I q ?_)
 cases x<;>first
  |(cases rx;rfl)
  |(obtain⟨t,rfl⟩:=rx;rfl)
theorem N1:OpR X (compareOp .NotIn) (fun x y H Q=>∃i j,x= .str i∧y= .str j∧Q (.bl (!(!(Builtin.Str.occurrences j i 0 j.length 1).isEmpty))) H):=by
 intro pins s σ H x y v u Q I rx ry h
 obtain⟨i,j,rfl,rfl,q⟩:=h
 obtain⟨t,rfl⟩:=rx
 obtain⟨t',rfl⟩:=ry
 exact notIn_str (Zw I q rfl)
theorem Zv5{op:CmpOp}{r:R2}(ho:OpR X (compareOp op) r)(ha:PE X a ta)(hb:PE X b tb)(hm:behindInMarks op b=false):PE X (.Compare a [op] [b] pos) (tOp r ta tb):=by
 intro pins s σ H Q I h
 exact wpAny_Compare1 (binT ha hb I h fun v u s2 x y H2 I2 rx ry q=>ho pins s2 σ H2 x y v u Q I2 rx ry q) hm
def Zn6(t:TE):TT:=fun σ H Q=>t σ H fun x H'=>∃k,x= .bl k∧Q k H'
theorem Zt7{op:CmpOp}{r:R2}(ho:OpR X (compareOp op) r)(ha:PE X a ta)(hb:PE X b tb)(hm:behindInMarks op b=false):PT X (.Compare a [op] [b] pos) (Zn6 (tOp r ta tb)):=by
 intro pins s σ H Q I h
 refine wpAny_isTrue_Compare1 (thn (ha pins s σ H _ I h) fun v s1 ⟨x,H1,I1,r1,q1⟩=>thn (hb pins s1 σ H1 _ I1 q1) fun u s2 ⟨y,H2,I2,r2,q2⟩=>
  thn (ho pins s2 σ H2 x y v u _ I2 r1 r2 q2) fun c s3 ⟨z,H3,I3,r3,k,e,q3⟩=>?_) hm
 subst e
 cases r3
 exact wpAny_truthy_bool ⟨H3,I3,q3⟩
def Z67(r r':R2)(ta tb tc:TE):TE:=fun σ H Q=>ta σ H fun x H1=>tb σ H1 fun y H2=>r x y H2 fun z H3=>∃k,z= .bl k∧
 (if k=true then tc σ H3 fun w' H4=>r' y w' H4 Q else Q (.bl false) H3)
theorem Zg5{op op':CmpOp}{r r':R2}(ho:OpR X (compareOp op) r)(ho':OpR X (compareOp op') r')(ha:PE X a ta)(hb:PE X b tb)(hc:PE X c tc)
  (hm:lastMarks [op,op'] [b,c]=false:=by with_unfolding_all rfl):PE X (.Compare a [op,op'] [b,c] pos) (Z67 r r' ta tb tc):=by
 intro pins s σ H Q I h
 refine Compare_chain (thn (ha pins s σ H _ I h) fun v s1 ⟨x,H1,I1,r1,q1⟩=>chain_link (thn (hb pins s1 σ H1 _ I1 q1) fun u s2 ⟨y,H2,I2,r2,q2⟩=>
  thn (ho pins s2 σ H2 x y v u _ I2 r1 r2 q2) fun d s3 ⟨z,H3,I3,r3,k,e,q3⟩=>?_)) hm
 subst e
 cases r3
 refine wpAny_truthy_bool ?_
 cases k with
 | false=>exact ite_ff ⟨.bl false,H3,I3,rfl,q3⟩
 | true=>exact ite_tt (chain_last (thn (hc pins s3 σ H3 _ I3 q3) fun w' s4 zz24=>by obtain⟨z',H4,I4,r4,q4⟩:=zz24;exact ho' pins s4 σ H4 y z' u w' Q I4 r2 r4 q4))
theorem Ze0{op op':CmpOp}{r r':R2}(ho:OpR X (compareOp op) r)(ho':OpR X (compareOp op') r')(ha:PE X a ta)(hb:PE X b tb)(hc:PE X c tc)
  (hm:lastMarks [op,op'] [b,c]=false:=by with_unfolding_all rfl):PT X (.Compare a [op,op'] [b,c] pos) (Zn6 (Z67 r r' ta tb tc)):=by
 intro pins s σ H Q I h
 refine isTrue_chain (thn (ha pins s σ H _ I h) fun v s1 ⟨x,H1,I1,r1,q1⟩=>test_link (thn (hb pins s1 σ H1 _ I1 q1) fun u s2 ⟨y,H2,I2,r2,q2⟩=>
  thn (ho pins s2 σ H2 x y v u _ I2 r1 r2 q2) fun d s3 ⟨z,H3,I3,r3,k,e,q3⟩=>?_)) hm
 subst e
 cases r3
 refine wpAny_truthy_bool ?_
 cases k with
 | false=>
  obtain⟨k',e',q'⟩:=q3
  cases e'
  exact ite_ff ⟨H3,I3,q'⟩
 | true=>
  refine ite_tt (test_last (thn (hc pins s3 σ H3 _ I3 q3) fun w' s4 ⟨z',H4,I4,r4,q4⟩=>thn (ho' pins s4 σ H4 y z' u w' _ I4 r2 r4 q4) fun d' s5 zz27=>?_))
  obtain⟨z2,H5,I5,r5,k2,e2,q5⟩:=zz27
  subst e2
  cases r5
  exact wpAny_truthy_bool ⟨H5,I5,q5⟩
def TruV(K:PySem.W.Frag)(x:V)(H:Hp)(k:Bool):Prop:=
 match x with
 | .non=>k=false
 | .bl b=>k=b
 | .int i=>k=(i !=0)
 | .str y=>y.length≤sizeLine∧k=((y.length:Int) !=0)
 | .byt y=>y.size≤sizeLine∧k=((y.size:Int) !=0)
 | .ref p=>(∃xs,SqL K H p xs∧k= !xs.isEmpty)∨(∃xs,SqT K H p xs∧k= !xs.isEmpty)∨∃kvs,H p=some (.dK kvs)∧k= !kvs.isEmpty
 | _=>False
theorem C6{κ:Type}{kvs:List (κ×V)}{vs:List (κ×Value)}(r:KV kvs vs):(!vs.isEmpty)= !kvs.isEmpty:=by
 cases r<;>rfl
theorem Pa{xs:List V}{its:List Value}(r:Vals xs its):(!its.toArray.isEmpty)= !xs.isEmpty:=by
 cases r<;>simp
theorem Q1:(sizeLine:Nat)<2 ^ 63:=by rw[sizeLine_eq];decide
theorem Em:TruR X (fun x H Q=>∃k,TruV X.K x H k∧Q k H):=by
 intro pins s σ H x v Q I rx h
 obtain⟨k,e,q⟩:=h
 have hl:=Q1
 have hs:sizeLine=16777216:=sizeLine_eq
 cases x with
 | non=>
  cases rx
  have e':k=false:=e
  subst e'
  exact truthy_none ⟨H,I,q⟩
 | bl b=>
  cases rx
  have e':k=b:=e
  subst e'
  exact wpAny_truthy_bool ⟨H,I,q⟩
 | int i=>
  obtain⟨t,rfl⟩:=rx
  have e':k=(i !=0):=e
  subst e'
  exact PySem.P.truthy_int ⟨H,I,q⟩
 | str y=>
  obtain⟨t,rfl⟩:=rx
  obtain⟨hy,e'⟩:y.length≤sizeLine∧k=((y.length:Int) !=0):=e
  subst e'
  exact PySem.P.truthy_str (by omega) ⟨H,I.tok _,q⟩
 | byt y=>
  obtain⟨t,rfl⟩:=rx
  obtain⟨hy,e'⟩:y.size≤sizeLine∧k=((y.size:Int) !=0):=e
  subst e'
  exact PySem.W.truthy_bytes (by omega) ⟨H,I.tok _,q⟩
 | ref p=>
  cases rx
  have e':(∃xs,SqL X.K H p xs∧k= !xs.isEmpty)∨(∃xs,SqT X.K H p xs∧k= !xs.isEmpty)∨∃kvs,H p=some (.dK kvs)∧k= !kvs.isEmpty:=e
  rcases e' with⟨xs,hx,e'⟩ | ⟨xs,hx,e'⟩ | ⟨kvs,hx,e'⟩
  ·subst e'
   obtain⟨its,r,pl,hz⟩:=I.list hx
   have hlen:=r.length
   exact wpAny_truthy_list pl.isList (by simp only[List.size_toArray];omega) ⟨H,I.tok _,by rw[Pa r];exact q⟩
  ·subst e'
   obtain⟨its,r,pl,hz⟩:=I.tuple hx
   have hlen:=r.length
   exact truthy_tuple pl (by simp only[List.size_toArray];omega) ⟨H,I.tok _,by rw[Pa r];exact q⟩
  ·subst e'
   obtain⟨hz,hS,vs,r,m⟩:kvs.length≤sizeLine∧(p==sysModules)=false∧∃vs,KV kvs vs∧s.heap.DictOf (Y6 X.prog X.w) p vs:=I.hok p _ hx
   have hlen:kvs.length=vs.length:=Paired.length r
   exact wpAny_truthy_dict hS m (by omega) ⟨H,I.tok _,by rw[C6 r];exact q⟩
 | _=>exact(show False from e).elim
theorem Zd4(ha:PE X a ta)(he:∀whole,isTrue a X.env whole=(do let v ←whole;standAt a.pos;holding [v] (truthy v))):
  PT X a (fun σ H Q=>ta σ H fun x H'=>∃k,TruV X.K x H' k∧Q k H'):=by
 intro pins s σ H Q I h
 exact isTrue_plain (thn (ha pins s σ H _ I h) fun v s1 zz28=>by obtain⟨x,H1,I1,r1,q1⟩:=zz28;exact Em pins s1 σ H1 x v Q I1 r1 q1) (he _)
theorem B6:OpR X (binaryOp .Add) (fun x y H Q=>∃i j,x= .str i∧y= .str j∧i.length+j.length≤sizeLine∧Q (.str (i++j)) H):=by
 intro pins s σ H x y v u Q I rx ry h
 obtain⟨i,j,rfl,rfl,hz,q⟩:=h
 obtain⟨t,rfl⟩:=rx
 obtain⟨t',rfl⟩:=ry
 exact add_str (fun t' tk=>⟨.str (i++j),H,I.tok _,⟨_,rfl⟩,q⟩) hz
theorem Nc{x:V}{us:List Value}(r:Vals [x] us):∃u,us=[u]∧RelV x u:=by
 cases r with
 | cons r1 r2=>cases r2;exact⟨_,rfl,r1⟩
theorem J7{x y:V}{us:List Value}(r:Vals [x,y] us):∃u w',us=[u,w']∧RelV x u∧RelV y w':=by
 cases r with
 | cons r1 r2=>
  cases r2 with
  | cons r3 r4=>cases r4;exact⟨_,_,rfl,r1,r3⟩
theorem Z76(hc:X.calm=true):Vq X (.builtin "max") (fun xs H Q=>∃i j,xs=[.int i,.int j]∧Q (.int (if j >i then j else i)) H):=by
 intro pins s σ H xs us Q I r h
 obtain⟨i,j,rfl,q⟩:=h
 obtain⟨u,w',rfl,⟨t,rfl⟩,⟨t',rfl⟩⟩:=J7 r
 refine max_two_ints (I.ok.hd hc) fun h' tk k=>⟨_,H,I.kept k,?_,q⟩
 by_cases hj:j >i
 ·rw[if_pos hj,if_pos hj];exact⟨_,rfl⟩
 ·rw[if_neg hj,if_neg hj];exact⟨_,rfl⟩
theorem Bz(hc:X.calm=true):Vq X (.builtin "min") (fun xs H Q=>∃i j,xs=[.int i,.int j]∧Q (.int (if j<i then j else i)) H):=by
 intro pins s σ H xs us Q I r h
 obtain⟨i,j,rfl,q⟩:=h
 obtain⟨u,w',rfl,⟨t,rfl⟩,⟨t',rfl⟩⟩:=J7 r
 refine min_two_ints (I.ok.hd hc) fun h' tk k=>⟨_,H,I.kept k,?_,q⟩
 by_cases hj:j<i
 ·rw[if_pos hj,if_pos hj];exact⟨_,rfl⟩
 ·rw[if_neg hj,if_neg hj];exact⟨_,rfl⟩
end
structure ObjM(h:Heap)(x dx C:Addr)(mA:Str→Option Value):Prop where
 obj:h.get? x=some (PySem.W.instObj C dx)
 ns:h.Ns1 dx mA
 ne:dx≠x
theorem Ni{h:Heap}{dx:Addr}{mA:Str→Option Value}(n:h.Ns1 dx mA):∃od,h.get? dx=some od∧∀name,PySem.W.lookIn name od=some (mA name):=by
 obtain⟨o,es,ep,ho,hd,hk,_,hm⟩:=n
 refine⟨o,ho,fun name=>?_⟩
 have e:=hm name
 unfold nsFind findBy at e
 rw[←Array.find?_toList] at e
 unfold PySem.W.lookIn
 rw[hd]
 dsimp only
 split
 ·rename_i y q
  rw[q] at e
  exact congrArg some e
 ·rename_i q
  rw[q] at e
  have a:es.toList.any (·.refKey)=false:=by
   rw[List.any_eq_false]
   intro y hy
   obtain⟨z,t,hkey⟩:=hk y (Array.mem_toList_iff.mp hy)
   simp[DictEntry.refKey,hkey]
  have a':¬es.toList.any (·.refKey)=true:=by rw[a];exact Bool.false_ne_true
  rw[if_neg a']
  exact congrArg some e
theorem ObjM.look{h:Heap}{x dx C:Addr}{mA:Str→Option Value}(I:ObjM h x dx C mA):∃od,PySem.W.InstAt h x (PySem.W.instObj C dx) C (some od)∧∀name,PySem.W.lookIn name od=some (mA name):=
 let ⟨od,ho,hl⟩:=Ni I.ns
 ⟨od,⟨I.obj,rfl,rfl,ho⟩,hl⟩
section
variable{prog:Program}{w:World}{A:Around}{E:Value→Shared→Prop}{s:Shared}{K:PySem.W.Frag}{x dx C f:Addr}{mA:Str→Option Value}{name:Str}{v:Value}
end
theorem RelO.some_of{v:V}{o:Option Value}(r:RelO (some v) o):∃u,o=some u∧RelV v u:=by
 cases o with
 | none=>exact(show False from r).elim
 | some u=>exact⟨u,rfl,r⟩
theorem RelO.none_of{o:Option Value}(r:RelO none o):o=none:=by
 cases o with
 | none=>rfl
 | some u=>exact(show False from r).elim
section
variable{P:Program}{w:World}{H H':Hp}{h h':Heap}{a C dx:Addr}{fs fs':List (Str×V)}
theorem Zu4(hok:HOk P w H h)(e:H a=some (.ins C dx fs)):∃mA,ObjM h a dx C mA∧(∀f,RelO (fs.lookup f) (mA f))∧PySem.Within mA (fs.map (·.1))∧fs.length≤1000∧H dx=some (.own a):=by
 obtain⟨d,z,ne,ob,mA,n,r,q⟩:=(show Yu P w H h a (.ins C dx fs) from hok a _ e)
 exact⟨mA,⟨ob,n,ne⟩,r,q,z,d⟩
end
structure Cls(K:PySem.W.Frag)(C:Addr):Prop where
 pg:PySem.W.plainGet K C Str.empty=true
 hd:PySem.W.hasDictIn K C=true
 po:PySem.W.plainOver K C=true
 sa:PySem.W.findIn K (.ref C) "__setattr__"=some (some (.builtin "object.__setattr__"))
theorem Cls.get{K:PySem.W.Frag}{C:Addr}(c:Cls K C)(f:Str):PySem.W.plainGet K C f=true:=c.pg
structure Con(K:PySem.W.Frag)(C:Addr)(f:Str)(v:V)(u:Value):Prop where
 at_:PySem.W.findIn K (.ref C) f=some (some u)
 rel:RelV v u
 get:PySem.W.specialIn K u "__get__"=some none
 cp:PySem.W.copiedNames.contains f=false
structure Meth(K:PySem.W.Frag)(C:Addr)(m:Str)(f:Addr):Prop where
 at_:PySem.W.findIn K (.ref C) m=some (some (.ref f))
 fn:PySem.W.isFn K (.ref f)=true
 kp:PySem.W.keepIn K (.ref f)=true
section
variable{X:Cx}{pins:List (Addr×Obj)}{σ:St}{H:Hp}{s:Shared}{a C dx:Addr}{fs:List (Str×V)}{f:Str}{v:V}{A:Around}{E:Value→Shared→Prop}
end
section
variable{X:Cx}{o e value:Expr}{f:Str}{pos pos' tpos:Pos}{ta tv:TE}
end
section
variable{X:Cx}{pins:List (Addr×Obj)}{σ:St}{H:Hp}{s:Shared}{A:Around}{E:Value→Shared→Prop}{Q:Value→Shared→Prop}{c:Value}{b:Bool}
inductive TyOf (K:PySem.W.Frag) (H:Hp):V→Value→Prop where
 | non:TyOf K H .non (.type "NoneType")
 | bl (x:Bool):TyOf K H (.bl x) (.type "bool")
 | int (i:Int):TyOf K H (.int i) (.type "int")
 | str (x:Str):TyOf K H (.str x) (.type "str")
 | flt (x:UInt64):TyOf K H (.flt x) (.type "float")
 | lst {a:Addr} {xs:List V} (e:H a=some (.lst xs)):TyOf K H (.ref a) (.type "list")
 | frz {a:Addr} {o:Obj} {xs:List V} (e:H a=some (.frz o (.lst xs))):TyOf K H (.ref a) (.type "list")
 | tup {a:Addr} {xs:List V} (e:H a=some (.tup xs)):TyOf K H (.ref a) (.type "tuple")
 | dK {a:Addr} {kvs:List (Key×V)} (e:H a=some (.dK kvs)):TyOf K H (.ref a) (.type "dict")
 | dT {a:Addr} {kvs:List (List Key×V)} (e:H a=some (.dT kvs)):TyOf K H (.ref a) (.type "dict")
 | ins {a C dx:Addr} {fs:List (Str×V)} (e:H a=some (.ins C dx fs)) (cl:Cls K C) (ha:PySem.W.findIn K (.ref C) "__class__"=some (some (.builtin "object.__class__")))
   (hn:PySem.W.specialIn K (.builtin "object.__class__") "__get__"=some (some (.builtin "getset_descriptor.__get__"))) (htk:PySem.W.takesIn K (.builtin "object.__class__")=some true)
   (hm:PySem.W.mroIn K C (.type "object")=some true):TyOf K H (.ref a) (.ref C)
theorem Z13{x:V}{u t:Value}(I:Inv X pins σ H s)(rx:RelV x u)(ty:TyOf X.K H x t)(e:PySem.W.kitOne X.K t c=some b)(h:∀tk,Q (.bool b) {s with toks:=tk}):
  wpAny (model X.prog X.w) A (call (.builtin "isinstance") [u,c]) Q E s:=by
 cases ty with
 | non=>cases (show u=Value.none from rx);exact PySem.W.kia_one PySem.W.kitx_none I.kIn True.intro e (fun z=>nomatch z) h
 | bl y=>cases (show u=Value.bool y from rx);exact PySem.W.kia_one PySem.W.kitx_bool I.kIn True.intro e (fun z=>nomatch z) h
 | int i=>obtain⟨t,q⟩:=(show ∃t,u=Value.int i t from rx);cases q;exact PySem.W.kia_one PySem.W.kitx_int I.kIn True.intro e (fun z=>nomatch z) h
 | str y=>obtain⟨t,q⟩:=(show ∃t,u=Value.str y t from rx);cases q;exact PySem.W.kia_one PySem.W.kitx_str I.kIn True.intro e (fun z=>nomatch z) h
 | flt y=>obtain⟨t,q⟩:=(show ∃t,u=Value.float y t from rx);cases q;exact PySem.W.kia_one PySem.W.kitx_float I.kIn True.intro e (fun z=>nomatch z) h
 | @lst a xs ea=>
  cases (show u=Value.ref a from rx)
  obtain⟨_,_,n,_,h1⟩:=(show Yu X.prog X.w H s.heap a (.lst xs) from I.hok a _ ea)
  exact PySem.W.kia_one PySem.W.kitx_list I.kIn ⟨_,h1,rfl⟩ e (fun z=>nomatch z) h
 | @frz a ob xs ea=>
  cases (show u=Value.ref a from rx)
  obtain⟨_,_,_,n,_,h1⟩:=(show Yu X.prog X.w H s.heap a (.frz ob (.lst xs)) from I.hok a _ ea)
  exact PySem.W.kia_one PySem.W.kitx_list I.kIn ⟨_,h1,rfl⟩ e (fun z=>nomatch z) h
 | @tup a xs ea=>
  cases (show u=Value.ref a from rx)
  obtain⟨_,_,_,p⟩:=(show Yu X.prog X.w H s.heap a (.tup xs) from I.hok a _ ea)
  obtain⟨o,h1,h2,_⟩:=p
  exact PySem.W.kia_one PySem.W.kitx_tuple I.kIn ⟨o,h1,h2⟩ e (fun z=>nomatch z) h
 | @dK a kvs ea=>
  cases (show u=Value.ref a from rx)
  obtain⟨_,_,vs,_,p⟩:=(show Yu X.prog X.w H s.heap a (.dK kvs) from I.hok a _ ea)
  obtain⟨o,es,ep,h1,h2,_⟩:=p
  exact PySem.W.kia_one PySem.W.kitx_dict I.kIn ⟨o,h1,h2.1⟩ e (fun z=>nomatch z) h
 | @dT a kvs ea=>
  cases (show u=Value.ref a from rx)
  obtain⟨_,_,xs,_,o,es,ep,h1,h2,_⟩:=(show Yu X.prog X.w H s.heap a (.dT kvs) from I.hok a _ ea)
  exact PySem.W.kia_one PySem.W.kitx_dict I.kIn ⟨o,h1,h2.1⟩ e (fun z=>nomatch z) h
 | @ins a C dx fs ea cl ha hn htk hm=>
  cases (show u=Value.ref a from rx)
  obtain⟨mA,O,_⟩:=Zu4 I.hok ea
  obtain⟨od,J,_⟩:=O.look
  exact PySem.W.kia_one (PySem.W.kitx_own (cl.get _) cl.hd ha hn htk hm) I.kIn J e (fun z=>nomatch z) h
end
structure Room(k:Nat)(A:Around):Prop where
 hd:A.handled=none
 dp:A.depth+3 * k+5<recursionLimit
 un:A.units+16 * k+200<cLine
theorem Room.mono{j k:Nat}{A:Around}(r:Room k A)(h:j≤k):Room j A:=⟨r.hd,by have:=r.dp;omega,by have:=r.un;omega⟩
theorem Room.deeper{k:Nat}{A:Around}(r:Room (k+1) A)(env:Env):Room k (A.deeper env):=
 ⟨r.hd,by have:=r.dp;show A.depth+1+3 * k+5<_;omega,by have:=r.un;show A.units+3+16 * k+200<_;omega⟩
theorem Cv{A:Around}{C:Addr}{us:List Value}{kw:List (Str×Value)}:(A.under (.builtin "type.__call__" ⟨.ref C::us,kw⟩)).depth=A.depth+1:=by
 first | rfl | simp[Around.under,Code.weight,Code.isCreation,Code.isGuard,Code.isCaller,Code.frames,Code.isFrame,guardIds]
theorem Cr{A:Around}{C:Addr}{us:List Value}{kw:List (Str×Value)}:(A.under (.builtin "type.__call__" ⟨.ref C::us,kw⟩)).units=A.units+1:=by
 first | rfl | simp[Around.under,Code.cUnits,Code.frames,Code.isFrame]
theorem Room.make{k:Nat}{A:Around}(r:Room (k+1) A)(C:Addr)(us:List Value)(kw:List (Str×Value)):Room k (A.under (.builtin "type.__call__" ⟨.ref C::us,kw⟩)):=
 ⟨r.hd,by have:=r.dp;rw[Cv];omega,by have:=r.un;rw[Cr];omega⟩
theorem Room.depth{k:Nat}{A:Around}(r:Room k A):A.depth<recursionLimit:=by have:=r.dp;omega
theorem Room.units{k:Nat}{A:Around}(r:Room k A):A.units+64<cLine:=by have:=r.un;omega
def tNil:TA:=fun _ H Q=>Q [] H
def Y65(ta:TE)(tr:TA):TA:=fun σ H Q=>ta σ H fun x H1=>tr σ H1 fun xs H2=>Q (x::xs) H2
section
variable{X:Cx}{e:Expr}{es:List Expr}{te:TE}{t:TA}{pos:Pos}
theorem Ei:PA X [] tNil:=fun _ _ _ _ H Q I h=>Calls.spliced_nil ⟨[],H,I,.nil,h⟩
theorem Ry(ha:PE X e te)(hr:PA X es t)(hs:starEach (e::es) X.env=(false,eval e X.env)::starEach es X.env:=by rfl):PA X (e::es) (Y65 te t):=by
 intro pos pins s σ H Q I h
 rw[hs]
 show wpAny _ _ (spliced ((false,eval e X.env)::backTo pos (starEach es X.env))) _ _ s
 refine Calls.spliced_cons (thn (ha pins s σ H _ I h) fun u s1 zz29=>?_)
 obtain⟨x,H1,I1,r1,q1⟩:=zz29
 exact thn (hr pos pins s1 σ H1 _ I1 q1) fun us s2 zz30=>by obtain⟨xs,H2,I2,r2,q2⟩:=zz30;exact⟨x::xs,H2,I2,.cons r1 r2,q2⟩
def tTup(t:TA):TE:=fun σ H Q=>t σ H fun xs H1=>xs.length≤sizeLine∧∀p,H1 p=none→Q (.ref p) (upd H1 p (.tup xs))
def tLst(t:TA):TE:=fun σ H Q=>t σ H fun xs H1=>xs.length≤sizeLine∧∀p,H1 p=none→Q (.ref p) (upd H1 p (.lst xs))
theorem Y20{x1}(h:PA X es t):PE X (.Tuple es x1 pos) (tTup t):=by
 intro pins s σ H Q I hq
 refine wpAny_Tuple_spliced (thn (h pos pins s σ H _ I hq) fun us s1 ⟨xs,H1,I1,r,z,q⟩=>⟨by rw[←r.length];exact z,?_⟩)
 have hf:H1 s1.heap.objs.size=none:=I1.hok.fresh (Nat.le_refl _)
 refine⟨.ref s1.heap.objs.size,upd H1 s1.heap.objs.size (.tup xs),I1.laid (t':=s1.toks) (fun b u e=>Heap.get?_push_of_some _ e) (Nat.le_refl _) ?_,rfl,q _ hf⟩
 exact⟨z,us,r,⟨_,Heap.get?_push_size _ rfl,rfl,_,rfl⟩⟩
theorem Y47(h:PA X es t):PE X (.List es pos) (tLst t):=by
 intro pins s σ H Q I hq
 refine wpAny_List_spliced (thn (h pos pins s σ H _ I hq) fun us s1 ⟨xs,H1,I1,r,z,q⟩=>⟨by rw[←r.length];exact z,?_⟩)
 have hf:H1 s1.heap.objs.size=none:=I1.hok.fresh (Nat.le_refl _)
 refine⟨.ref s1.heap.objs.size,upd H1 s1.heap.objs.size (.lst xs),I1.laid (t':=s1.toks) (fun b u e=>Heap.get?_push_of_some _ e) (Nat.le_refl _) ?_,rfl,q _ hf⟩
 exact⟨z,us,0,r,Heap.get?_push_size _ rfl⟩
end
abbrev Sp:=List V→Hp→VK→XK→Prop
abbrev CXT:=List Env→Hp→Shared→XK→Value→Shared→Prop
structure Env0(P:Program)(w:World)(K:PySem.W.Frag)(mg:Str→Option Value)(base:Heap)(A:Around)(outer:List Env)(s:Shared)(H:Hp):Prop where
 frames:A.frames=some outer
 mod:Mod K mg base
 bs:∀b o,base.get? b=some o→s.heap.get? b=some o∧H b=none
 bsz:base.objs.size≤s.heap.objs.size
 funs:s.heap.FunFrames base outer
 frf:∀b∈frs outer,H b=none
 hok:HOk P w H s.heap
 bare:AllBare s.gens
def CE(outer:List Env)(P:Program)(w:World)(H:Hp)(s:Shared)(Q:VK)(u:Value)(s':Shared):Prop:=
 ∃v H',s'.os=s.os∧AllBare s'.gens∧Un (frs outer) [] H H' s.heap s'.heap∧HOk P w H' s'.heap∧RelV v u∧Q v H'
def CR(CX:CXT)(outer:List Env)(P:Program)(w:World)(H:Hp)(s:Shared)(Q:VK)(E:XK)(r:Result)(s':Shared):Prop:=
 match r with
 | .ok (.ret u)=>CE outer P w H s Q u s'
 | .ok _=>False
 | .error e=>CX outer H s E e s'
structure FnOk(P:Program)(w:World)(K:PySem.W.Frag)(mg:Str→Option Value)(base:Heap)(CX:CXT)(k:Nat)(f:Addr)(fd:FuncData)(ps:List Str)(sp:Sp):Prop where
 len:∀vs H Q E,sp vs H Q E→vs.length=ps.length
 run:∀(A:Around) (outer:List Env) (s:Shared) (H:Hp) (args:Args) (us:List Value) (vs:List V) (Q:VK) (E:XK),Room k A→Env0 P w K mg base A outer s H→BindsTo s fd args (ps.zip us)→Vals vs us→sp vs H Q E→
  codeAny (model P w) A (.call (.ref f) args) (CR CX outer P w H s Q E) s
theorem Env0.make{P:Program}{w:World}{K:PySem.W.Frag}{mg:Str→Option Value}{base:Heap}{A:Around}{outer:List Env}{s:Shared}{H:Hp}(e:Env0 P w K mg base A outer s H)(C:Addr)(us:List Value)(kw:List (Str×Value)):
  Env0 P w K mg base (A.under (.builtin "type.__call__" ⟨.ref C::us,kw⟩)) outer s H:=⟨by first | exact e.frames | (simpa[Around.under,Code.envs,Code.isFrame,pushEnvs] using e.frames),e.mod,e.bs,e.bsz,e.funs,e.frf,e.hok,e.bare⟩
section
variable{X:Cx}{pins:List (Addr×Obj)}{σ:St}{H:Hp}{s s':Shared}
theorem Inv.env0(I:Inv X pins σ H s):Env0 X.prog X.w X.K X.mg X.base X.A X.stack s H:=
 ⟨I.ok.frames,I.ok.mod,I.bs,Nat.le_trans I.ok.bsz I.sz,I.stack,I.stkFree,I.hok,I.bare⟩
theorem Inv.after{Q:VK}{u:Value}(I:Inv X pins σ H s)(h:CE X.stack X.prog X.w H s Q u s'):EP X pins σ Q u s':=by
 obtain⟨v,H',os,bare,un,hok,r,q⟩:=h
 obtain⟨hh,g,d,t,os'⟩:=s'
 obtain rfl:os'=s.os:=os
 exact⟨v,H',I.call (h':=hh) (g':=g) (d':=d) (t':=t) (ch:=[]) un hok bare (fun b z=>absurd z (by simp)),r,q⟩
end
def Y56(sp:Sp)(dvs:List V)(E:XK)(t:TA):TE:=fun σ H Q=>t σ H fun vs H1=>sp (vs++dvs) H1 Q E
def Zq(K:PySem.W.Frag)(fd:FuncData)(ps:List Str)(ds:List Value):Prop:=
 ∀(s:Shared) (us:List Value),K.In s.heap→(us++ds).length=ps.length→BindsTo s fd ⟨us,[]⟩ (ps.zip (us++ds))
theorem Zq.all{K:PySem.W.Frag}{fd:FuncData}{ps:List Str}(h:∀us:List Value,us.length=ps.length→bindArgs fd ⟨us,[]⟩=pure (ps.zip us)):Zq K fd ps []:=fun s us _ hl=>by
 rw[List.append_nil] at hl ⊢
 exact .of_eq (h us hl)
def Nn(CX:CXT)(X:Cx)(E:XK):Prop:=∀(pins:List (Addr×Obj)) (σ:St) (H:Hp) (s:Shared) (e:Value) (s':Shared),Inv X pins σ H s→CX X.stack H s E e s'→X.xe e s'
section
variable{X:Cx}{CX:CXT}{k:Nat}{f C:Addr}{fd:FuncData}{ps:List Str}{sp:Sp}{dvs:List V}{ds:List Value}{E:XK}{x m:Str}{p pos apos:Pos}{e o:Expr}{es:List Expr}{ta:TE}{t:TA}
theorem Zn2{pins:List (Addr×Obj)}{σ:St}{H:Hp}{s:Shared}{Q:VK}{us:List Value}{vs:List V}(F:FnOk X.prog X.w X.K X.mg X.base CX k f fd ps sp)(hr:Room k X.A)(hb:Zq X.K fd ps ds)(hd:Vals dvs ds)(hx:Nn CX X E)
  (I:Inv X pins σ H s) (r:Vals vs us) (h:sp (vs++dvs) H Q E):wpAny (model X.prog X.w) X.A (call (.ref f) us) (EP X pins σ Q) X.xe s:=by
 have r2:Vals (vs++dvs) (us++ds):=r.append hd
 have hl:(us++ds).length=ps.length:=by rw[←r2.length];exact F.len _ _ _ _ h
 refine wpAny_call (codeAny_mono (F.run X.A X.stack s H ⟨us,[]⟩ (us++ds) (vs++dvs) Q E hr I.env0 (hb s us I.kIn hl) r2 h) fun r s' hq=>?_)
 cases r with
 | error e=>exact hx pins σ H s e s' I hq
 | ok fl=>
  cases fl with
  | ret u=>exact I.after hq
  | next=>exact False.elim hq
  | brk=>exact False.elim hq
  | cont=>exact False.elim hq
theorem Zp6(F:FnOk X.prog X.w X.K X.mg X.base CX k f fd ps sp)(hr:Room k X.A)(hg:Gl X x)(hm:X.mg x=some (.ref f))(hk:PySem.W.keepIn X.K (.ref f)=true)(hb:Zq X.K fd ps ds)(hd:Vals dvs ds)(hx:Nn CX X E)
  (ha:PA X (e::es) t) (hdb:(x==("__debug__":Str))=false:=by decide) (he:starEach (e::es) X.env=(false,eval e X.env)::starEach es X.env:=by rfl) (hpl:(backTo pos (starEach es X.env)).any (·.1)=false:=by rfl):
  PE X (.Call (.Name x p) (e::es) [] pos) (Y56 sp dvs E t):=by
 intro pins s σ H Q I h
 refine wpAny_Call_Name_kw (V3 I hg hm ?_ hdb)
 refine PySem.W.callWith_K (h₀:=X.base) I.ok.mod.kin hk (thn (ha pos pins s σ H _ I h) fun us s1 ⟨vs,H1,I1,r,q⟩=>⟨I1.kIn,?_⟩) he hpl
 exact Zn2 F hr hb hd hx I1 r q
theorem Zi2(F:FnOk X.prog X.w X.K X.mg X.base CX k f fd ps sp)(hr:Room k X.A)(hg:Gl X x)(hm:X.mg x=some (.ref f))(hk:PySem.W.keepIn X.K (.ref f)=true)(hb:Zq X.K fd ps ds)(hd:Vals dvs ds)(hx:Nn CX X E)
  (hdb:(x==("__debug__":Str))=false:=by decide):PE X (.Call (.Name x p) [] [] pos) (Y56 sp dvs E tNil):=by
 intro pins s σ H Q I h
 refine wpAny_Call_Name_kw (V3 I hg hm ?_ hdb)
 exact PySem.W.callWith_K0 I.kIn hk (Zn2 (us:=[]) F hr hb hd hx I .nil h)
structure Mk(K:PySem.W.Frag)(C f:Addr):Prop where
 makes:PySem.W.makesIn K C=true
 init:PySem.W.findIn K (.ref C) "__init__"=some (some (.ref f))
 fn:PySem.W.isFn K (.ref f)=true
 kp:PySem.W.keepIn K (.ref C)=true
end
section
variable{X:Cx}{CX:CXT}{k:Nat}{f C:Addr}{fd:FuncData}{ps ks:List Str}{sp:Sp}{E:XK}{x m:Str}{p pos apos kpos:Pos}{e o:Expr}{es:List Expr}{kws:List Keyword}{te ta:TE}{t tk:TA}{nm:Option Str}
structure KBinds(K:PySem.W.Frag)(fd:FuncData)(ps ks:List Str)(g:List Value→List Value→List Value)(gV:List V→List V→List V):Prop where
 to:∀(s:Shared) (us ws:List Value),K.In s.heap→(g us ws).length=ps.length→BindsTo s fd ⟨us,ks.zip ws⟩ (ps.zip (g us ws))
 rel:∀{vs:List V} {us:List Value} {zs:List V} {ws:List Value},Vals vs us→Vals zs ws→Vals (gV vs zs) (g us ws)
variable{g:List Value→List Value→List Value}{gV:List V→List V→List V}
end
structure FnScope(N P:List Str)(sc:Scope):Prop where
 kind:sc.kind= .function
 co:sc.isCoroutine=false
 gen:sc.isGenerator=false
 nd:N.Nodup
 pre:N.take P.length=P
 par:∀x∈P,sc.names.lookup x=some .local∨sc.names.lookup x=some .cell
 nofree:∀y∈sc.names,y.2≠ .free
theorem G2{kindOf:Str→Option NameKind}{x:Str}:∀{binds:List (Str×Value)} {m:Str→Option Value},(∀v,(x,v)∉binds)→bindL kindOf binds m x=m x
 | [],_,_=>rfl
 |(n,v)::r,m,h=>by
  unfold bindL
  rw[G2 fun w hw=>h w (List.mem_cons_of_mem _ hw)]
  split
  ·have:x≠n:=by rintro rfl;exact h v List.mem_cons_self
   simp[this]
  ·rfl
theorem Jg{kindOf:Str→Option NameKind}{x:Str}:∀{binds:List (Str×Value)} {m:Str→Option Value},(∀v,(x,v)∉binds)→bindC kindOf binds m x=m x
 | [],_,_=>rfl
 |(n,v)::r,m,h=>by
  unfold bindC
  rw[Jg fun w hw=>h w (List.mem_cons_of_mem _ hw)]
  split
  ·rfl
  ·have:x≠n:=by rintro rfl;exact h v List.mem_cons_self
   simp[this]
theorem N8{kindOf:Str→Option NameKind}{x:Str}{v:Value}:∀{P:List Str} {vs:List Value} {i:Nat} {m:Str→Option Value},P.Nodup→P[i]?=some x→vs[i]?=some v→kindOf x=some .local→
  bindL kindOf (P.zip vs) m x=some v
 | [],_,_,_,_,h,_,_=>by simp at h
 | _::_,[],_,_,_,_,h,_=>by simp at h
 | p::P,w::vs,0,m,nd,h1,h2,hk=>by
  simp at h1 h2;subst h1;subst h2
  show bindL kindOf ((p,w)::P.zip vs) m p=_
  unfold bindL
  rw[G2 fun v hv=>(List.nodup_cons.mp nd).1 (List.of_mem_zip hv).1,if_pos hk]
  simp
 | p::P,w::vs,i+1,m,nd,h1,h2,hk=>by
  show bindL kindOf ((p,w)::P.zip vs) m x=_
  unfold bindL
  exact N8 (i:=i) (List.nodup_cons.mp nd).2 (by simpa using h1) (by simpa using h2) hk
theorem J8{kindOf:Str→Option NameKind}{x:Str}{v:Value}:∀{P:List Str} {vs:List Value} {i:Nat} {m:Str→Option Value},P.Nodup→P[i]?=some x→vs[i]?=some v→kindOf x≠some .local→
  bindC kindOf (P.zip vs) m x=some v
 | [],_,_,_,_,h,_,_=>by simp at h
 | _::_,[],_,_,_,_,h,_=>by simp at h
 | p::P,w::vs,0,m,nd,h1,h2,hk=>by
  simp at h1 h2;subst h1;subst h2
  show bindC kindOf ((p,w)::P.zip vs) m p=_
  unfold bindC
  rw[Jg fun v hv=>(List.nodup_cons.mp nd).1 (List.of_mem_zip hv).1,if_neg hk]
  simp
 | p::P,w::vs,i+1,m,nd,h1,h2,hk=>by
  show bindC kindOf ((p,w)::P.zip vs) m x=_
  unfold bindC
  exact J8 (i:=i) (List.nodup_cons.mp nd).2 (by simpa using h1) (by simpa using h2) hk
noncomputable def start(N:List Str)(vs:List V):St:=vs.map some++List.replicate (N.length - vs.length) none
def cxOf(CX:CXT)(P:Program)(w:World)(K:PySem.W.Frag)(mg:Str→Option Value)(base:Heap)(N:List Str)(qual:Str)(scope:Scope)(f:Addr)(cd:Value)(A:Around)(outer:List Env)(s:Shared)(H:Hp)(E:XK):Cx where
 prog:=P
 w:=w
 K:=K
 mg:=mg
 base:=base
 A:=A.deeper (envOfC qual scope s.heap.objs.size f cd)
 N:=N
 s₀:=s
 H₀:=H
 env:=envOfC qual scope s.heap.objs.size f cd
 outer:=outer
 stack:=envOfC qual scope s.heap.objs.size f cd::outer
 ex:=[]
 calm:=true
 fn:=fun _=>true
 pn:=[]
 xe:=fun e s'=>wpAny (model P w) (A.deeper (envOfC qual scope s.heap.objs.size f cd)) (leaving (envOfC qual scope s.heap.objs.size f cd) e) (fun _ s''=>CX outer H s E e s'') (fun e' s''=>CX outer H s E e' s'') s'
theorem Ec{sc:Scope}{n:Nat}{x:Str}(h:sc.names.lookup x=some .cell):∃c,(cellsFrom n sc.names []).lookup x=some c:=by
 have q:=PySem.W.cellsFrom_some sc.names n [] (.inl h)
 exact Option.isSome_iff_exists.mp q
theorem Z19{CX:CXT}{P:Program}{w:World}{K:PySem.W.Frag}{mg:Str→Option Value}{base:Heap}{N ps:List Str}{qual:Str}{scope:Scope}{f:Addr}{cd:Value}{A:Around}{outer:List Env}{s s1:Shared}{H:Hp}{E:XK}{us:List Value}{vs:List V}
  (S:FnScope N ps scope) (hd:A.handled=none) (e0:Env0 P w K mg base A outer s H) (hl:vs.length=ps.length) (r:Vals vs us)
  (x:InCallC s s.heap.objs.size (bindL (envOfC qual scope s.heap.objs.size f cd).kindOf (ps.zip us) fun _=>none) (cellsFrom (s.heap.objs.size+1) scope.names []) (bindC (envOfC qual scope s.heap.objs.size f cd).kindOf (ps.zip us) fun _=>none) s1):
  Inv (cxOf CX P w K mg base N qual scope f cd A outer s H E) [] (start N vs) H s1:=by
 have hpl:ps.length≤N.length:=by have:=congrArg List.length S.pre;rw[List.length_take] at this;omega
 obtain⟨h1,tk,rfl,hk⟩:=x.done
 have noA:∀b:Addr,b∉(cxOf CX P w K mg base N qual scope f cd A outer s H E).ex:=fun b z=>absurd (show b∈([]:List Addr) from z) (by simp)
 refine⟨⟨e0.mod,S.kind,rfl,rfl,Nat.le_refl _,fun y z c h1 h2=>?_,fun y hy=>?_,fun y c _ h=>?_,fun _=>hd,Around.frames_deeper e0.frames,.inr ⟨rfl,rfl⟩,fun b z=>absurd z (noA b),e0.bs,e0.bsz,fun b _ _=>noA b,fun b z=>absurd z (noA b),e0.funs,e0.frf⟩,
  rfl,e0.bare,Un.kept hk,⟨_,x.toInCall.ns,fun i y v h1 h2 h3=>?_⟩,fun y c h=>⟨_,x.cell y c h⟩,e0.hok.fresh (Nat.le_refl _),fun y c h=>?_,fun p hp=>absurd (show p∈([]:List (Addr×Obj)) from hp) (by simp),e0.hok.kept hk,?_⟩
 ·exact name_of_addr x.apart (PySem.mem_of_lookup h1) (PySem.mem_of_lookup h2)
 ·have hy:scope.names.lookup y=some .cell∨scope.names.lookup y=some .free:=hy
  rcases hy with hy | hy
  ·exact Ec hy
  ·exact absurd rfl (S.nofree _ (PySem.mem_of_lookup hy))
 ·exact Nat.le_of_lt (x.above y c (PySem.mem_of_lookup h))
 ·have hi:i<vs.length:=by
   unfold start at h2
   by_cases hi:i<vs.length
   ·exact hi
   ·rw[List.getElem?_append_right (by simpa using hi)] at h2
    rw[List.getElem?_replicate] at h2
    split at h2<;>cases h2
  have ha:vs[i]?=some v:=by
   unfold start at h2
   rw[List.getElem?_append_left (by simpa using hi),List.getElem?_map] at h2
   cases e:vs[i]? with
   | none=>rw[e] at h2;cases h2
   | some a=>rw[e] at h2;cases h2;rfl
  obtain⟨u,hu,rv⟩:=r.get ha
  have hp:ps[i]?=some y:=by
   rw[←S.pre,List.getElem?_take_of_lt (by omega)];exact h1
  have ndP:ps.Nodup:=by rw[←S.pre];exact S.nd.sublist (List.take_sublist _ _)
  refine⟨u,rv,?_⟩
  rcases S.par y (List.mem_of_getElem? hp) with k | k
  ·exact .inl ⟨k,N8 ndP hp hu k⟩
  ·obtain⟨c,e⟩:=Ec (n:=s.heap.objs.size+1) k
   refine .inr ⟨.inl k,c,e,?_⟩
   have q:=x.cell y c e
   rw[J8 ndP hp hu (by show scope.names.lookup y≠_;rw[k];decide)] at q
   exact q
 ·exact e0.hok.fresh (Nat.le_of_lt (x.above y c (PySem.mem_of_lookup h)))
 ·unfold start
  show _=N.length
  rw[List.length_append,List.length_map,List.length_replicate]
  omega
theorem Zs1{CX:CXT}{P:Program}{w:World}{K:PySem.W.Frag}{mg:Str→Option Value}{base:Heap}{k:Nat}{f:Addr}{name qual:Str}{params:Arguments}{body:List Stmt}{scope:Scope}{dV kV doc pm cdv ct oc:Value}{an od:Option Addr}
  {osl:Array (Option Value)} {N ps:List Str} {sp:Sp} (lk:K.lookup f=some ⟨oc,od,.func (PySem.W.fnOf name qual params body scope dV kV doc pm an cdv ct),osl⟩) (hcd:PySem.W.codeIn K cdv qual=true) (S:FnScope N ps scope)
  (len:∀vs H Q E,sp vs H Q E→vs.length=ps.length)
  (hbody:∀(A:Around) (outer:List Env) (s:Shared) (H:Hp) (vs:List V) (Q:VK) (E:XK),Room k (A.deeper (envOfC qual scope s.heap.objs.size f cdv))→sp vs H Q E→
   ∃t,PSs (cxOf CX P w K mg base N qual scope f cdv A outer s H E) body t∧t {nx:=fun _ H'=>Q .non H',rt:=Q} (start N vs) H):
  FnOk P w K mg base CX (k+1) f (PySem.W.fnOf name qual params body scope dV kV doc pm an cdv ct) ps sp:=by
 refine⟨len,fun A outer s H args us vs Q E hr e0 hb r hsp=>?_⟩
 have hl:=len _ _ _ _ hsp
 have KX:K.In s.heap:=e0.mod.kin.keeps fun b o e=>(e0.bs b o e).1
 have lim:s.heap.NoLimit:=e0.mod.nolimit.keeps fun b o e=>(e0.bs b o e).1
 have hkind:∀y∈ps.zip us,scope.names.lookup y.1=some .local∨(scope.names.lookup y.1=some .cell∧((cellsFrom (s.heap.objs.size+1) scope.names []).lookup y.1).isSome=true):=fun⟨n,v⟩ hy=>by
  rcases S.par n (List.of_mem_zip hy).1 with q | q
  ·exact .inl q
  ·exact .inr ⟨q,PySem.W.cellsFrom_some _ _ _ (.inl q)⟩
 refine codeAny_call_function hr.depth (KX _ _ lk) rfl S.co S.gen rfl (PySem.W.codeRec_of KX hcd) (hb _ _ _ _ ?_)
 refine wpAny_newFunctionEnv_cells S.kind hkind fun env he s1 x=>?_
 subst he
 refine⟨lim.keeps x.toInCall.keep,codeAny_func ?_⟩
 obtain⟨t,ht,hq⟩:=hbody A outer s H vs Q E (hr.deeper _) hsp
 have I:Inv (cxOf CX P w K mg base N qual scope f cdv A outer s H E) [] (start N vs) H s1:=Z19 S hr.hd e0 hl r x
 refine wpAny_mono (ht [] s1 (start N vs) H _ I hq) (fun fl s' hs=>?_) fun e s' hs=>hs
 have fin:∀{σ':St} {H':Hp} {v:V} {u:Value},Inv (cxOf CX P w K mg base N qual scope f cdv A outer s H E) [] σ' H' s'→RelV v u→Q v H'→CE outer P w H s Q u s':=
  fun{σ' H' v u} J rv q=>⟨v,H',J.os,J.bare,J.base,J.hok,rv,q⟩
 cases fl with
 | ret u=>
  obtain⟨v,σ',H',J,rv,q⟩:=hs
  exact fin J rv q
 | next=>
  obtain⟨σ',H',J,q⟩:=hs
  exact fin (v:=V.non) (u:=Value.none) J rfl q
 | brk=>
  obtain⟨_,_,_,q⟩:=hs
  exact False.elim q
 | cont=>
  obtain⟨_,_,_,q⟩:=hs
  exact False.elim q
section
variable{X:Cx}{x:Str}{p pos:Pos}{e:Expr}{es:List Expr}{t:TA}{id T:String}{r:List V→Hp→VK→Prop}
def tCB(r:List V→Hp→VK→Prop)(t:TA):TE:=fun σ H Q=>t σ H fun vs H1=>r vs H1 Q
theorem Zj4(hc:Vq X (.builtin id) r)(hg:Gl X x)(hm:X.mg x=none)(hv:bootBuiltins x=some (.builtin id))(ha:PA X (e::es) t)(hn:x≠"__name__":=by decide)(hdb:(x==("__debug__":Str))=false:=by decide)
  (he:starEach (e::es) X.env=(false,eval e X.env)::starEach es X.env:=by rfl) (hpl:(backTo pos (starEach es X.env)).any (·.1)=false:=by rfl):PE X (.Call (.Name x p) (e::es) [] pos) (tCB r t):=by
 intro pins s σ H Q I h
 refine wpAny_Call_Name_kw (Q3 I hg hm hv ?_ hn hdb)
 exact PyProof.Rows.callWith_builtin1 (thn (ha pos pins s σ H _ I h) fun us s1 zz35=>by obtain⟨vs,H1,I1,r1,q1⟩:=zz35;exact hc pins s1 σ H1 vs us Q I1 r1 q1) he hpl
theorem Z62(hc:Vq X (.type T) r)(hg:Gl X x)(hm:X.mg x=none)(hv:bootBuiltins x=some (.type T))(ha:PA X (e::es) t)(hn:x≠"__name__":=by decide)(hdb:(x==("__debug__":Str))=false:=by decide)
  (he:starEach (e::es) X.env=(false,eval e X.env)::starEach es X.env:=by rfl) (hpl:(backTo pos (starEach es X.env)).any (·.1)=false:=by rfl):PE X (.Call (.Name x p) (e::es) [] pos) (tCB r t):=by
 intro pins s σ H Q I h
 refine wpAny_Call_Name_kw (Q3 I hg hm hv ?_ hn hdb)
 exact PyProof.Rows.callWith_type1 (thn (ha pos pins s σ H _ I h) fun us s1 zz36=>by obtain⟨vs,H1,I1,r1,q1⟩:=zz36;exact hc pins s1 σ H1 vs us Q I1 r1 q1) he hpl
end
end L2
namespace HT
open PySem PyProof.Rows
section
open PySem.SeqAt
open PySem.AutoSeq1 (wpAny_loadPart')
open PySem.MeetsSeq PySem.MeetsSeq2 PySem.MeetsSeq3
end
section
variable{prog:Program}{w:World}{A:Around}{E:Value→Shared→Prop}{s:Shared}
theorem Zq1{t b:Addr}{vs ws:List Value}{Q:Value→Shared→Prop}(ht:IsTup s.heap t vs.toArray)(hb:IsTup s.heap b ws.toArray)(hv:vs≠[])
  (h1:ws=[]→Q (.ref t) s) (h2:ws≠[]→Q (.ref s.heap.objs.size) {s with heap:=s.heap.push {cls:= .type "tuple",data:= .seq (vs++ws).toArray}})
  (hsz:vs.length+ws.length≤sizeLine):wpAny (model prog w) A (binaryOp .Add (.ref t) (.ref b)) Q E s:=by
 obtain⟨⟨cls,dd,data,sl⟩,ho,hc,n,hd⟩:=id ht
 obtain⟨⟨cls2,dd2,data2,sl2⟩,ho2,hc2,n2,hd2⟩:=id hb
 simp only at hc hd hc2 hd2
 subst hc hd hc2 hd2
 have e:vs.toArray++ws.toArray=(vs++ws).toArray:=by simp
 by_cases hw:ws=[]
 ·exact concat_meets ⟨_,ho,rfl⟩ ⟨_,ho2,rfl⟩ noFill_tuple_add seq_tuple_add PySem.F.slot_tuple_add PySem.F.entry_tuple_add (PySem.F.args_tuple_add_2 _ _)
   (tuple_addW1 t b vs.toArray ws.toArray n n2 dd dd2 sl sl2 (by simpa using hv) (by simp[hw])) ⟨ho,ho2,h1 hw⟩
 ·refine concat_meets ⟨_,ho,rfl⟩ ⟨_,ho2,rfl⟩ noFill_tuple_add seq_tuple_add PySem.F.slot_tuple_add PySem.F.entry_tuple_add (PySem.F.args_tuple_add_2 _ _)
   (tuple_addW2 t b vs.toArray ws.toArray n n2 dd dd2 sl sl2 (by simpa using hv) (by simpa using hw) (by rw[List.size_toArray,List.size_toArray];exact hsz)) ⟨ho,ho2,?_⟩
  rw[e]
  exact h2 hw
noncomputable def sIx(n d:Nat):Option Int→Nat
 | none=>d
 | some v=>if v<0 then(v+(n:Int)).toNat else min v.toNat n
theorem Y39(n d:Nat)(hd:d≤n)(o:Option Int):sIx n d o≤n:=by
 cases o with
 | none=>exact hd
 | some v=>
  show(if v<0 then(v+(n:Int)).toNat else min v.toNat n)≤n
  by_cases hv:v<0
  ·rw[if_pos hv];omega
  ·rw[if_neg hv];exact Nat.min_le_right _ _
theorem Z79(v:Int)(n d:Nat):(if v<0 then max (v+(n:Int)) 0 else min v (n:Int))=((sIx n d (some v):Nat):Int):=by
 show(if v<0 then max (v+(n:Int)) 0 else min v (n:Int))=(((if v<0 then(v+(n:Int)).toNat else min v.toNat n):Nat):Int)
 by_cases hv:v<0
 ·simp only[if_pos hv];omega
 ·simp only[if_neg hv];omega
theorem Ci(lo hi:Option Int)(n:Nat):Builtin.Slice.sliceAdjust lo hi 1 (n:Int)=(((sIx n 0 lo:Nat):Int),((sIx n n hi:Nat):Int)):=by
 have h1:¬((1:Int)<0):=by omega
 unfold Builtin.Slice.sliceAdjust
 simp only[h1,if_false]
 refine Prod.ext ?_ ?_
 ·cases lo with
  | none=>rfl
  | some v=>exact Z79 v n 0
 ·cases hi with
  | none=>rfl
  | some v=>exact Z79 v n n
theorem Bi(i j:Nat):Builtin.Slice.slicePlaces (i:Int) (j:Int) 1=j - i:=by
 unfold Builtin.Slice.slicePlaces
 have h1:(1:Int) >0:=by omega
 simp only[h1,if_true,Int.ediv_one]
 split<;>omega
theorem Qt{v:Value}{o:Option Int}{Q:Option Int→Shared→Prop}(p:IsPart v o)(h:Q o s):wpAny (model prog w) A (Builtin.Slice.slicePartIndex v) Q E s:=by
 cases p with
 | none=>exact slicePart_none h
 | int i t=>exact slicePart_int h
theorem Sq{sl:Addr}{vl vu:Value}{lo hi:Option Int}{n:Nat}{Q:Int×Int×Nat→Shared→Prop}(hs:s.heap.IsSliceOf sl vl vu .none)(pl:IsPart vl lo)(pu:IsPart vu hi)
  (h:Q (((sIx n 0 lo:Nat):Int),1,sIx n n hi - sIx n 0 lo) s):wpAny (model prog w) A (Builtin.Slice.sliceApplied (.ref sl) (pure (n:Int))) Q E s:=by
 obtain⟨os,hos,hcs,hds⟩:=id hs
 unfold Builtin.Slice.sliceApplied Builtin.Slice.sliceFields
 refine wpAny_bind (wpAny_bind (wpAny_field hos hds (x:=vl) rfl (wpAny_bind (wpAny_field hos hds (x:=vu) rfl (wpAny_bind (wpAny_field hos hds (x:= .none) rfl (wpAny_pure ?_)))))))
 refine wpAny_bind (slicePart_none ?_)
 show wpAny _ _ (if ((1:Int)==0)=true then _ else _) _ _ s
 rw[if_neg (by decide)]
 refine wpAny_bind (Qt pl (wpAny_bind (Qt pu (wpAny_bind (wpAny_pure ?_)))))
 show wpAny _ _ (match Builtin.Slice.sliceAdjust lo hi 1 (n:Int) with | (lo,hi)=>pure (lo,(1:Int),Builtin.Slice.slicePlaces lo hi 1)) _ _ s
 rw[Ci lo hi n]
 show wpAny _ _ (pure (((sIx n 0 lo:Nat):Int),(1:Int),Builtin.Slice.slicePlaces ((sIx n 0 lo:Nat):Int) ((sIx n n hi:Nat):Int) 1)) _ _ s
 rw[Bi]
 exact wpAny_pure h
theorem Zc7(xs:Array Value)(i k:Nat):((List.range k).filterMap fun(m:Nat)=>xs[((i:Int)+(m:Int) * 1).toNat]?).toArray=((xs.toList.drop i).take k).toArray:=by
 have e:(fun(m:Nat)=>xs[((i:Int)+(m:Int) * 1).toNat]?)=fun m=>xs[i+m]?:=by
  funext m
  have:((i:Int)+(m:Int) * 1).toNat=i+m:=by omega
  rw[this]
 rw[e]
 have:=pick_run xs i k
 rw[List.filterMap_map] at this
 have e2:((fun x=>xs[x]?) ∘ fun x=>i+x)=fun m=>xs[i+m]?:=rfl
 rw[e2] at this
 rw[this]
theorem S6{t sl:Addr}{items:Array Value}{vl vu:Value}{lo hi:Option Int}{Q:Value→Shared→Prop}(ht:IsTup s.heap t items)(hs:s.heap.IsSliceOf sl vl vu .none)(pl:IsPart vl lo)(pu:IsPart vu hi)
  (hw:¬(sIx items.size 0 lo=0∧sIx items.size items.size hi=items.size))
  (h:Q (.ref s.heap.objs.size) {s with heap:=s.heap.push {cls:= .type "tuple",data:= .seq ((items.toList.drop (sIx items.size 0 lo)).take (sIx items.size items.size hi - sIx items.size 0 lo)).toArray}})
  (hsz:items.size≤sizeLine):wpAny (model prog w) A (getItem (.ref t) (.ref sl)) Q E s:=by
 have htake:sizeOk (.seq ((items.toList.drop (sIx items.size 0 lo)).take (sIx items.size items.size hi - sIx items.size 0 lo)).toArray):=by
  show((items.toList.drop (sIx items.size 0 lo)).take (sIx items.size items.size hi - sIx items.size 0 lo)).toArray.size≤sizeLine
  rw[List.size_toArray,List.length_take,List.length_drop,Array.length_toList]
  omega
 have hj:sIx items.size items.size hi≤items.size:=Y39 _ _ (Nat.le_refl _) hi
 obtain⟨os,hos,hcs,hds⟩:=id hs
 have hTs:s.TypeIs (.ref sl) "slice":=⟨os,hos,hcs⟩
 unfold getItem
 try with_reducible refine wpAny_holding ?_
 first | refine wpAny_bind (wpAny_pure ?_) | skip
 refine wpAny_bind (wpAny_sequenceKey ht.typeIs (by decide) ?_)
 refine wpAny_bind (wpAny_callSpecial?_slot (name:=Str.ofString "__getitem__") ht.typeIs PyProof.Rows.slot_tuple_getitem
  (wpAny_call_entry PyProof.Rows.slot_tuple_getitem ht.typeIs entry_tuple_getitem ?_ (args_tuple_getitem _ _)))
 show wpAny _ _ (Builtin.Tuple.tupleItemsOf (.ref t) >>=_) _ _ s
 refine wpAny_bind (tupleItemsOf_ ht ?_)
 refine wpAny_bind (wpAny_typeOf hTs ?_)
 rw[if_pos (by decide)]
 refine wpAny_bind (Sq hs pl pu ?_)
 have hno:¬((((sIx items.size 0 lo:Nat):Int)==0&&(1:Int)==1&&(sIx items.size items.size hi - sIx items.size 0 lo)==items.size)=true):=by
  intro q
  rw[Bool.and_eq_true,Bool.and_eq_true] at q
  have q1:((sIx items.size 0 lo:Nat):Int)=0:=eq_of_beq q.1.1
  have q2:sIx items.size items.size hi - sIx items.size 0 lo=items.size:=eq_of_beq q.2
  exact hw ⟨by omega,by omega⟩
 show wpAny _ _ (if (((sIx items.size 0 lo:Nat):Int)==0&&(1:Int)==1&&(sIx items.size items.size hi - sIx items.size 0 lo)==items.size)=true then _ else _) _ _ s
 rw[if_neg hno,Zc7]
 first
  | exact wpAny_bind (m:=Builtin.Tuple.tupleExact _) (wpAny_newObj_type (wpAny_pure ⟨_,rfl,wpAny_pure h⟩) htake)
  | exact wpAny_bind (m:=Builtin.Tuple.tupleExact _) (wpAny_newObj_type (wpAny_bind (wpAny_pure (wpAny_pure ⟨_,rfl,wpAny_pure h⟩))) htake)
  | exact wpAny_bind (wpAny_bind (m:=Builtin.Tuple.tupleExact _) (wpAny_newObj_type (wpAny_pure (wpAny_pure ⟨_,rfl,wpAny_pure h⟩)) htake))
  | exact wpAny_bind (wpAny_bind (m:=Builtin.Tuple.tupleExact _) (wpAny_newObj_type (wpAny_pure ⟨_,rfl,wpAny_pure h⟩) htake))
end
end HT
namespace L2
open PySem PySem.Spec PyProof.Rows
abbrev TO:=St→Hp→(Option Int→Hp→Prop)→Prop
def PO(X:Cx)(e:Option Expr)(t:TO):Prop:=
 ∀(pins:List (Addr×Obj)) (s:Shared) (σ:St) (H:Hp) (Q:Option Int→Hp→Prop),Inv X pins σ H s→t σ H Q→
  wpAny (model X.prog X.w) X.A (evalPart e X.env) (fun u s'=>∃o H',Inv X pins σ H' s'∧IsPart u o∧Q o H') X.xe s
def Zp1:TO:=fun _ H Q=>Q none H
def Y94(t:TE):TO:=fun σ H Q=>t σ H fun x H1=>∃i,x= .int i∧Q (some i) H1
section
variable{X:Cx}{e:Expr}{te:TE}{lo hi:Option Expr}{tl th:TO}{pos p2:Pos}
theorem Zt5:PO X none Zp1:=by
 intro pins s σ H Q I h
 rw[evalPart_none]
 exact wpAny_pure ⟨none,H,I,.none,h⟩
theorem Z10(h:PE X e te):PO X (some e) (Y94 te):=by
 intro pins s σ H Q I hw
 rw[evalPart_some]
 refine thn (h pins s σ H _ I hw) fun u s1 zz37=>?_
 obtain⟨x,H1,I1,r1,q1⟩:=zz37
 obtain⟨i,rfl,q⟩:=q1
 obtain⟨t,rfl⟩:=r1
 exact⟨some i,H1,I1,.int i t,q⟩
def SlR(X:Cx)(r:V→Option Int→Option Int→Hp→VK→Prop):Prop:=
 ∀(pins:List (Addr×Obj)) (s:Shared) (σ:St) (H:Hp) (x:V) (v vl vu:Value) (lo hi:Option Int) (sl:Addr) (Q:VK),Inv X pins σ H s→RelV x v→s.heap.IsSliceOf sl vl vu .none→IsPart vl lo→IsPart vu hi→r x lo hi H Q→
  ∃T id,typeLookup (.type T) "__getitem__"=pure (some (.builtin id))∧s.TypeIs v T∧wpAny (model X.prog X.w) X.A (getItem v (.ref sl)) (EP X pins σ Q) X.xe s
def tSl(r:V→Option Int→Option Int→Hp→VK→Prop)(te:TE)(tl th:TO):TE:=fun σ H Q=>te σ H fun x H1=>tl σ H1 fun l H2=>th σ H2 fun u H3=>r x l u H3 Q
theorem Zk0{r:V→Option Int→Option Int→Hp→VK→Prop}(hr:SlR X r)(he:PE X e te)(hl:PO X lo tl)(hu:PO X hi th):PE X (.Subscript e (.Slice lo hi none p2) pos) (tSl r te tl th):=by
 intro pins s σ H Q I h
 refine Subscript_ (thn (he pins s σ H _ I h) fun v s1 zz38=>?_)
 obtain⟨x,H1,I1,r1,q1⟩:=zz38
 refine wpAny_Slice (thn (hl pins s1 σ H1 _ I1 q1) fun vl s2 ⟨l,H2,I2,pl,q2⟩=>thn (hu pins s2 σ H2 _ I2 q2) fun vu s3 zz40=>?_)
 obtain⟨u,H3,I3,pu,q3⟩:=zz40
 rw[evalPart_none]
 refine wpAny_pure ?_
 have I4:Inv X pins σ H3 {s3 with heap:=s3.heap.push {cls:= .type "slice",data:= .fields #[vl,vu,.none]}}:=I3.kept (t':=s3.toks) fun b ob q=>Heap.get?_push_of_some _ q
 obtain⟨T,id,hT,ht,hg⟩:=hr pins {s3 with heap:=s3.heap.push {cls:= .type "slice",data:= .fields #[vl,vu,.none]}} σ H3 x v vl vu l u s3.heap.objs.size Q I4 r1 (Heap.IsSliceOf.new ..) pl pu q3
 show wpAny (model X.prog X.w) X.A (subscriptTail e (.Slice lo hi none p2) v (.ref s3.heap.objs.size)) (EP X pins σ Q) X.xe {s3 with heap:=s3.heap.push {cls:= .type "slice",data:= .fields #[vl,vu,.none]}}
 exact tail_any (ops:=[.ref s3.heap.objs.size,v]) ht hT hg (by with_unfolding_all rfl)
noncomputable def cutV(xs:List V)(lo hi:Option Int):List V:=(xs.drop (HT.sIx xs.length 0 lo)).take (HT.sIx xs.length xs.length hi - HT.sIx xs.length 0 lo)
theorem Rp(xs:List V)(lo hi:Option Int):(cutV xs lo hi).length≤xs.length:=by
 unfold cutV
 rw[List.length_take,List.length_drop]
 omega
def rSlT(K:PySem.W.Frag):V→Option Int→Option Int→Hp→VK→Prop:=fun x lo hi H Q=>∃a xs,x= .ref a∧SqT K H a xs∧
 ¬(HT.sIx xs.length 0 lo=0∧HT.sIx xs.length xs.length hi=xs.length)∧∀p,H p=none→Q (.ref p) (upd H p (.tup (cutV xs lo hi)))
theorem Y10:SlR X (rSlT X.K):=by
 intro pins s σ H x v vl vu lo hi sl Q I rx hs pl pu h
 obtain⟨a,xs,rfl,hx,hw,q⟩:=h
 cases rx
 obtain⟨its,r,ht,hz⟩:=I.tuple hx
 have hlen:its.toArray.size=xs.length:=by rw[List.size_toArray];exact r.length.symm
 refine⟨"tuple",_,PyProof.Rows.slot_tuple_getitem.lookup,ht.typeIs,?_⟩
 refine HT.S6 ht hs pl pu (by rw[hlen];exact hw) ?_ (by rw[hlen];exact hz)
 rw[hlen]
 refine⟨.ref s.heap.objs.size,_,I.laid (t':=s.toks) (o:= .tup (cutV xs lo hi)) (fun b ob q=>Heap.get?_push_of_some _ q) (Nat.le_refl _) ?_,rfl,q _ (I.hok.fresh (Nat.le_refl _))⟩
 exact⟨Nat.le_trans (Rp xs lo hi) hz,_,(r.drop (HT.sIx xs.length 0 lo)).take (HT.sIx xs.length xs.length hi - HT.sIx xs.length 0 lo),IsTup.new _ _⟩
def Y63(K:PySem.W.Frag):R2:=fun x y H Q=>∃a b xs ys,x= .ref a∧y= .ref b∧SqT K H a xs∧SqT K H b ys∧xs≠[]∧xs.length+ys.length≤sizeLine∧
 (ys=[]→Q (.ref a) H)∧(ys≠[]→∀p,H p=none→Q (.ref p) (upd H p (.tup (xs++ys))))
theorem Vals.nil_iff{xs:List V}{us:List Value}(r:Vals xs us):us=[]↔xs=[]:=by
 cases r with
 | nil=>simp
 | cons _ _=>simp
theorem Zq7:OpR X (binaryOp .Add) (Y63 X.K):=by
 intro pins s σ H x y v u Q I rx ry h
 obtain⟨a,b,xs,ys,rfl,rfl,ha,hb,hx,hz,q1,q2⟩:=h
 cases rx
 cases ry
 obtain⟨its,r1,p1,_⟩:=I.tuple ha
 obtain⟨its2,r2,p2,_⟩:=I.tuple hb
 refine HT.Zq1 p1 p2 (fun z=>hx (r1.nil_iff.mp z)) (fun z=>⟨.ref a,H,I,rfl,q1 (r2.nil_iff.mp z)⟩) (fun z=>?_) (by rw[←r1.length,←r2.length];exact hz)
 refine⟨.ref s.heap.objs.size,_,I.laid (t':=s.toks) (o:= .tup (xs++ys)) (fun b ob q=>Heap.get?_push_of_some _ q) (Nat.le_refl _) ?_,rfl,q2 (fun w=>z (r2.nil_iff.mpr w)) _ (I.hok.fresh (Nat.le_refl _))⟩
 exact⟨by rw[List.length_append];exact hz,_,r1.append r2,IsTup.new _ _⟩
end
noncomputable def ixN(n:Nat)(i:Int):Option Nat:=if 0≤i then(if i<n then some i.toNat else none) else if -(n:Int)≤i then some (i+n).toNat else none
noncomputable def atI{α:Type}(xs:List α)(i:Int):Option α:=(ixN xs.length i).bind fun j=>xs[j]?
theorem Bu{n:Nat}{i:Int}{j:Nat}(h:ixN n i=some j):seqIndex? i n=some j∧j<n∧ -(n:Int)≤i∧i<n:=by
 unfold ixN at h
 by_cases h0:0≤i
 ·rw[if_pos h0] at h
  by_cases h1:i<n
  ·rw[if_pos h1] at h
   have e:i.toNat=j:=Option.some.inj h
   exact⟨by rw[seqIndex_of h0 h1,e],by omega,by omega,h1⟩
  ·rw[if_neg h1] at h;cases h
 ·rw[if_neg h0] at h
  by_cases h1:-(n:Int)≤i
  ·rw[if_pos h1] at h
   have e:(i+n).toNat=j:=Option.some.inj h
   exact⟨by rw[seqIndex_neg (by omega) h1,e],by omega,h1,by omega⟩
  ·rw[if_neg h1] at h;cases h
theorem Gi{α:Type}{xs:List α}{i:Int}{v:α}(h:atI xs i=some v):∃j,seqIndex? i xs.length=some j∧xs[j]?=some v∧j<xs.length∧ -(xs.length:Int)≤i∧i<xs.length:=by
 unfold atI at h
 cases e:ixN xs.length i with
 | none=>rw[e] at h;cases h
 | some j=>
  rw[e] at h
  obtain⟨h1,h2,h3,h4⟩:=Bu e
  exact⟨j,h1,h,h2,h3,h4⟩
theorem Rk{α:Type}{xs:List α}{j:Nat}{v:α}(h:xs[j]?=some v):atI xs (j:Int)=some v:=by
 have hj:j<xs.length:=(List.getElem?_eq_some_iff.mp h).1
 have e:ixN xs.length (j:Int)=some j:=by
  unfold ixN
  rw[if_pos (by omega),if_pos (by omega)];simp
 unfold atI;rw[e];exact h
theorem Zi1{α:Type}(xs:List α)(v:α):atI (xs++[v]) (-1)=some v:=by
 have hl:(xs++[v]).length=xs.length+1:=by simp
 have e:ixN (xs++[v]).length (-1)=some xs.length:=by
  unfold ixN
  rw[hl,if_neg (by decide),if_pos (by omega)]
  congr 1
  omega
 unfold atI
 rw[e]
 show(xs++[v])[xs.length]?=some v
 simp
def Z60(b:Expr):Prop:=∀o i,subscripted b false o i=operate [o,i] (getItem o i)
def IxR(X:Cx)(r:R2):Prop:=
 ∀(value slice:Expr) (pins:List (Addr×Obj)) (s:Shared) (σ:St) (H:Hp) (x y:V) (v u:Value) (Q:VK),Inv X pins σ H s→RelV x v→RelV y u→r x y H Q→
  subscripted slice false v u=operate [v,u] (getItem v u)→wpAny (model X.prog X.w) X.A (subscriptTail value slice v u) (EP X pins σ Q) X.xe s
def MtR(X:Cx)(id:String)(r:V→List V→Hp→VK→Prop):Prop:=
 ∀(pins:List (Addr×Obj)) (s:Shared) (σ:St) (H:Hp) (x:V) (xs:List V) (v:Value) (us:List Value) (Q:VK),Inv X pins σ H s→RelV x v→Vals xs us→r x xs H Q→
  wpAny (model X.prog X.w) X.A (call (.builtin id) (v::us)) (EP X pins σ Q) X.xe s
section
variable{X:Cx}{a b:Expr}{ta tb:TE}{pos:Pos}
theorem Y66{r:R2}(hr:IxR X r)(ha:PE X a ta)(hb:PE X b tb)(hs:Z60 b):PE X (.Subscript a b pos) (tOp r ta tb):=by
 intro pins s σ H Q I h
 exact Subscript_ (binT ha hb I h fun v u s2 x y H2 I2 rx ry q=>hr a b pins s2 σ H2 x y v u Q I2 rx ry q (hs _ _))
def rIxL(K:PySem.W.Frag):R2:=fun x y H Q=>∃p xs i v,x= .ref p∧y= .int i∧SqL K H p xs∧atI xs i=some v∧Q v H
def rIxT(K:PySem.W.Frag):R2:=fun x y H Q=>∃p xs i v,x= .ref p∧y= .int i∧SqT K H p xs∧atI xs i=some v∧Q v H
def rIxS:R2:=fun x y H Q=>∃z i c,x= .str z∧y= .int i∧z.length≤sizeLine∧atI z.cps.toList i=some c∧Q (.str ⟨#[c]⟩) H
theorem Zw2:IxR X (rIxL X.K):=by
 intro value slice pins s σ H x y v u Q I rx ry h hs
 obtain⟨p,xs,i,z,rfl,rfl,hq,he,q⟩:=h
 cases rx
 obtain⟨t,rfl⟩:=ry
 obtain⟨its,r,pl,hz⟩:=I.list hq
 obtain⟨j,h1,h2,h3,h4,h5⟩:=Gi he
 obtain⟨w,ew,rw'⟩:=r.get h2
 have hl:=r.length
 have hn:=Q1
 have fin:EP X pins σ Q w s:=⟨z,H,I,rw',q⟩
 by_cases h0:0≤i
 ·have hj:i.toNat=j:=by
   rw[seqIndex_of h0 h5] at h1
   exact Option.some.inj h1
  exact item_listR pl.isList h0 (by omega) (by rw[hj];simpa using ew) fin hs
 ·have hj:(i+(its.toArray.size:Int)).toNat=j:=by
   rw[seqIndex_neg (by omega) h4] at h1
   rw[List.size_toArray,←hl]
   exact Option.some.inj h1
  exact subscriptTail_builtinR (x:=w) pl.isList.typeIs slot_list_getitem.lookup
   (wpAny_getItem_list_neg (Q:=fun r s'=>r=w∧EP X pins σ Q r s') pl.isList (by omega) (by rw[List.size_toArray]<;>omega) (by omega) (by rw[hj];simpa using ew) ⟨rfl,fin⟩) hs
theorem Zl3:IxR X (rIxT X.K):=by
 intro value slice pins s σ H x y v u Q I rx ry h hs
 obtain⟨p,xs,i,z,rfl,rfl,hq,he,q⟩:=h
 cases rx
 obtain⟨t,rfl⟩:=ry
 obtain⟨its,r,pl,hz⟩:=I.tuple hq
 obtain⟨j,h1,h2,h3,h4,h5⟩:=Gi he
 obtain⟨w,ew,rw'⟩:=r.get h2
 have hl:=r.length
 have hn:=Q1
 have fin:EP X pins σ Q w s:=⟨z,H,I,rw',q⟩
 exact subscriptTail_builtinR (x:=w) pl.typeIs slot_tuple_getitem.lookup
  (getItem_tuple (j:=j) (Q:=fun r s'=>r=w∧EP X pins σ Q r s') pl (by omega) (by omega) (by rw[List.size_toArray,←hl];exact h1) (by simpa using ew) ⟨rfl,fin⟩) hs
theorem Zx1:IxR X rIxS:=by
 intro value slice pins s σ H x y v u Q I rx ry h hs
 obtain⟨z,i,c,rfl,rfl,hz,he,q⟩:=h
 obtain⟨t,rfl⟩:=rx
 obtain⟨t',rfl⟩:=ry
 obtain⟨j,h1,h2,h3,h4,h5⟩:=Gi he
 have hl:z.cps.toList.length=z.length:=by simp[Str.length]
 rw[hl] at h1 h4 h5
 have hn:=Q1
 exact tail_any (typeIs_str s z t) slot_str_getitem.lookup (getItem_str (c:=c) (by
  have e1:decide (i< -(2 ^ 63:Int))=false:=decide_eq_false (by omega)
  have e2:decide (i ≥ 2 ^ 63)=false:=decide_eq_false (by omega)
  rw[e1,e2,Bool.or_false]) (by rw[h1];simpa using h2) ⟨.str ⟨#[c]⟩,H,I.tok _,⟨_,rfl⟩,q⟩) hs
theorem Cj(its:List Value)(n j:Nat)(u:Value):Obj.mapSeq (·.setIfInBounds j u) {cls:= .type "list",data:= .seq its.toArray n}={cls:= .type "list",data:= .seq (its.set j u).toArray n}:=by
 simp[Obj.mapSeq]
theorem Inv.lst{pins:List (Addr×Obj)}{σ:St}{H:Hp}{s:Shared}{p:Addr}{xs:List V}(I:Inv X pins σ H s)(h:H p=some (.lst xs)):
  ∃(its:List Value) (n:Nat),Vals xs its∧s.heap.get? p=some {cls:= .type "list",data:= .seq its.toArray n}∧xs.length≤sizeLine:=by
 obtain⟨z,its,n,r,e⟩:=I.hok p _ h
 exact⟨its,n,r,e,z⟩
theorem Inv.lstUpd{pins:List (Addr×Obj)}{σ:St}{H:Hp}{s:Shared}{p:Addr}{xs ys:List V}{its its':List Value}{n n':Nat}{f:Obj→Obj}(I:Inv X pins σ H s)(h:H p=some (.lst xs))
  (ho:s.heap.get? p=some {cls:= .type "list",data:= .seq its.toArray n}) (hf:f {cls:= .type "list",data:= .seq its.toArray n}={cls:= .type "list",data:= .seq its'.toArray n'}) (r:Vals ys its') (hz:ys.length≤sizeLine) (t:Nat):
  Inv X pins σ (upd H p (.lst ys)) {s with heap:=s.heap.update p f,toks:=t}:=by
 have e:(s.heap.update p f).get? p=some {cls:= .type "list",data:= .seq its'.toArray n'}:=by
  rw[Heap.get?_update_self f ho (by rw[hf]<;>rfl),hf]
 refine I.write (x:=p) (e:=p) (by rw[h];trivial) (.inl rfl) (fun b u hb q=>(Heap.get?_update_other _ _ (Ne.symm hb)).trans q) ⟨_,e⟩ ?_
 exact⟨hz,its',n',r,e⟩
def Y26:V→V→V→Hp→(Hp→Prop)→Prop:=fun o i v H Q=>∃p xs k j,o= .ref p∧i= .int k∧H p=some (.lst xs)∧ixN xs.length k=some j∧Q (upd H p (.lst (xs.set j v)))
theorem Zi9:PSet X Y26:=by
 intro pins s σ H o i v ov iv u Q I ro ri rv h
 obtain⟨p,xs,k,j,rfl,rfl,hp,hj,q⟩:=h
 cases ro
 obtain⟨t,rfl⟩:=ri
 obtain⟨its,n,r,ho,hz⟩:=I.lst hp
 obtain⟨h1,h2,h3,h4⟩:=Bu hj
 have hl:=r.length
 have hn:=Q1
 have I':Inv X pins σ (upd H p (.lst (xs.set j v))) {s with heap:=s.heap.update p (Obj.mapSeq (·.setIfInBounds j u))}:=
  I.lstUpd hp ho (Cj its n j u) (r.set rv j) (by rw[List.length_set];exact hz) s.toks
 by_cases h0:0≤k
 ·have hk:k.toNat=j:=by
   rw[seqIndex_of h0 h4] at h1
   exact Option.some.inj h1
  exact PySem.W.ki_setAt ho h0 (by omega) (by rw[List.size_toArray,←hl];exact h4) (by rw[hk];exact⟨_,I',q⟩)
 ·have hk:(k+(its.toArray.size:Int)).toNat=j:=by
   rw[seqIndex_neg (by omega) h3] at h1
   rw[List.size_toArray,←hl]
   exact Option.some.inj h1
  exact PySem.W.ki_setBack ho (by omega) (by rw[List.size_toArray,←hl];exact h3) (by omega) (by rw[hk];exact⟨_,I',q⟩)
theorem Nh(lo hi:Option Int)(n:Nat):(sliceBounds lo hi none n).1=((HT.sIx n 0 lo:Nat):Int)∧(sliceBounds lo hi none n).2.1=((HT.sIx n n hi:Nat):Int)∧(sliceBounds lo hi none n).2.2=1:=by
 refine⟨?_,?_,rfl⟩
 ·cases lo with
  | none=>simp[sliceBounds,HT.sIx]
  | some i=>
   simp only[sliceBounds,HT.sIx,Option.getD_none,show(1:Int) >0 by decide,if_true]
   by_cases h:i<0
   ·simp only[h,if_true]<;>omega
   ·simp only[h,if_false]<;>omega
 ·cases hi with
  | none=>simp[sliceBounds,HT.sIx]
  | some i=>
   simp only[sliceBounds,HT.sIx,Option.getD_none,show(1:Int) >0 by decide,if_true]
   by_cases h:i<0
   ·simp only[h,if_true]<;>omega
   ·simp only[h,if_false]<;>omega
theorem Oh(its:List Value)(lo hi:Option Int):slicePick its.toArray lo hi none=((its.drop (HT.sIx its.length 0 lo)).take (HT.sIx its.length its.length hi - HT.sIx its.length 0 lo)).toArray:=by
 obtain⟨h1,h2,h3⟩:=Nh lo hi its.toArray.size
 unfold slicePick
 rw[h1,h2,h3]
 simp only[sliceRange_one,pick_run,List.size_toArray]<;>rfl
def rSlL(K:PySem.W.Frag):V→Option Int→Option Int→Hp→VK→Prop:=fun x lo hi H Q=>∃a xs,x= .ref a∧SqL K H a xs∧∀p,H p=none→Q (.ref p) (upd H p (.lst (cutV xs lo hi)))
theorem Zp4:SlR X (rSlL X.K):=by
 intro pins s σ H x v vl vu lo hi sl Q I rx hs pl pu h
 obtain⟨a,xs,rfl,hx,q⟩:=h
 cases rx
 obtain⟨its,r,ht,hz⟩:=I.list hx
 have hlen:=r.length
 refine⟨"list",_,slot_list_getitem.lookup,ht.isList.typeIs,?_⟩
 refine wpAny_getItem_list_slice ht.isList hs pl pu .none (by simp) ?_ (by rw[List.size_toArray]<;>omega)
 rw[Oh,←hlen]
 refine⟨.ref s.heap.objs.size,_,I.laid (t':=s.toks) (o:= .lst (cutV xs lo hi)) (fun b ob q=>Heap.get?_push_of_some _ q) (Nat.le_refl _) ?_,rfl,q _ (I.hok.fresh (Nat.le_refl _))⟩
 exact⟨Nat.le_trans (Rp xs lo hi) hz,_,0,(r.drop (HT.sIx xs.length 0 lo)).take (HT.sIx xs.length xs.length hi - HT.sIx xs.length 0 lo),Heap.get?_push_size _ rfl⟩
noncomputable def Ql:V→Bool
 | .non=>true
 | .bl _=>true
 | .int _=>true
 | .str _=>true
 | _=>false
noncomputable def eqV:V→V→Bool
 | .non,.non=>true
 | .bl a,.bl b=>a==b
 | .bl a,.int b=>(if a then 1 else 0)==b
 | .int a,.bl b=>a==(if b then 1 else 0)
 | .int a,.int b=>a==b
 | .str a,.str b=>a==b
 | _,_=>false
theorem Zl7{A:Around}{s:Shared}{y x:V}{u v:Value}(ry:RelV y u)(rx:RelV x v)(fy:Ql y=true)(fx:Ql x=true):SeqAt.EqAt A s u v (eqV y x):=by
 cases y with
 | non=>
  cases ry
  cases x with
  | non=>cases rx;exact SeqAt.EqAt.same _
  | bl b=>cases rx;exact SeqAt.EqAt.none_bool b
  | int b=>obtain⟨t,rfl⟩:=rx;exact SeqAt.EqAt.none_int b t
  | str b=>obtain⟨t,rfl⟩:=rx;exact SeqAt.EqAt.none_str b t
  | _=>exact absurd (show false=true from fx) Bool.false_ne_true
 | bl a=>
  cases ry
  cases x with
  | non=>cases rx;exact SeqAt.EqAt.bool_none a
  | bl b=>cases rx;exact SeqAt.EqAt.bool_bool a b
  | int b=>obtain⟨t,rfl⟩:=rx;exact SeqAt.EqAt.bool_int a b t
  | str b=>obtain⟨t,rfl⟩:=rx;exact SeqAt.EqAt.bool_str a b t
  | _=>exact absurd (show false=true from fx) Bool.false_ne_true
 | int a=>
  obtain⟨t',rfl⟩:=ry
  cases x with
  | non=>cases rx;exact SeqAt.EqAt.int_none a t'
  | bl b=>cases rx;exact SeqAt.EqAt.int_bool a t' b
  | int b=>obtain⟨t,rfl⟩:=rx;exact SeqAt.EqAt.int_int a t' b t
  | str b=>obtain⟨t,rfl⟩:=rx;exact SeqAt.EqAt.int_str a t' b t
  | _=>exact absurd (show false=true from fx) Bool.false_ne_true
 | str a=>
  obtain⟨t',rfl⟩:=ry
  cases x with
  | non=>cases rx;exact SeqAt.EqAt.str_none a t'
  | bl b=>cases rx;exact SeqAt.EqAt.str_bool a t' b
  | int b=>obtain⟨t,rfl⟩:=rx;exact SeqAt.EqAt.str_int a t' b t
  | str b=>obtain⟨t,rfl⟩:=rx;exact SeqAt.EqAt.str_str a t' b t
  | _=>exact absurd (show false=true from fx) Bool.false_ne_true
 | _=>exact absurd (show false=true from fy) Bool.false_ne_true
noncomputable def eqU(x:V)(u:Value):Bool:=match u with
 | .none=>eqV .non x
 | .bool b=>eqV (.bl b) x
 | .int i _=>eqV (.int i) x
 | .str z _=>eqV (.str z) x
 | _=>false
theorem Zm5{x y:V}{u:Value}(r:RelV y u)(f:Ql y=true):eqU x u=eqV y x:=by
 cases y with
 | non=>cases r;rfl
 | bl b=>cases r;rfl
 | int i=>obtain⟨t,rfl⟩:=r;rfl
 | str z=>obtain⟨t,rfl⟩:=r;rfl
 | _=>exact absurd (show false=true from f) Bool.false_ne_true
theorem Rn{x:V}:∀{xs:List V} {us:List Value},Vals xs us→xs.all Ql=true→us.any (eqU x)=xs.any fun y=>eqV y x
 | _,_,.nil,_=>rfl
 | y::xs,u::us,.cons r t,f=>by
  rw[List.all_cons,Bool.and_eq_true] at f
  rw[List.any_cons,List.any_cons,Zm5 r f.1,Rn t f.2]
theorem Te{A:Around}{s:Shared}{x:V}{v:Value}(rx:RelV x v)(fx:Ql x=true):∀{xs:List V} {us:List Value},Vals xs us→xs.all Ql=true→∀u∈us,SeqAt.EqAt A s u v (eqU x u)
 | _,_,.nil,_=>fun u hu=>by cases hu
 | y::xs,u::us,.cons r t,f=>fun u' hu=>by
  rw[List.all_cons,Bool.and_eq_true] at f
  rcases List.mem_cons.mp hu with rfl | hu
  ·rw[Zm5 r f.1];exact Zl7 r rx f.1 fx
  ·exact Te rx fx t f.2 u' hu
noncomputable def inV(x:V)(xs:List V):Bool:=xs.any fun y=>eqV y x
def rIn(K:PySem.W.Frag)(neg:Bool):R2:=fun x y H Q=>∃p xs,y= .ref p∧(SqL K H p xs∨SqT K H p xs)∧Ql x=true∧xs.all Ql=true∧Q (.bl (if neg then !inV x xs else inV x xs)) H
theorem Z89:OpR X (compareOp .In) (rIn X.K false):=by
 intro pins s σ H x y v u Q I rx ry h
 obtain⟨p,xs,rfl,hq,fx,fs,q⟩:=h
 cases ry
 rcases hq with hq | hq
 ·obtain⟨its,r,pl,hz⟩:=I.list hq
  refine SeqAt.in_listAt (eqU x) pl.isList (fun w hw=>Te rx fx r fs w (by simpa using hw)) ⟨.bl _,H,I,rfl,?_⟩
  rw[show its.toArray.any (eqU x)=its.any (eqU x) by simp,Rn r fs]
  exact q
 ·obtain⟨its,r,pl,hz⟩:=I.tuple hq
  refine SeqAt.in_tupleAt (eqU x) pl (fun w hw=>Te rx fx r fs w (by simpa using hw)) ⟨.bl _,H,I,rfl,?_⟩
  rw[show its.toArray.any (eqU x)=its.any (eqU x) by simp,Rn r fs]
  exact q
theorem Ox:OpR X (compareOp .NotIn) (rIn X.K true):=by
 intro pins s σ H x y v u Q I rx ry h
 obtain⟨p,xs,rfl,hq,fx,fs,q⟩:=h
 cases ry
 rcases hq with hq | hq
 ·obtain⟨its,r,pl,hz⟩:=I.list hq
  refine SeqAt.notIn_listAt (eqU x) pl.isList (fun w hw=>Te rx fx r fs w (by simpa using hw)) ⟨.bl _,H,I,rfl,?_⟩
  rw[show its.toArray.any (eqU x)=its.any (eqU x) by simp,Rn r fs]
  exact q
 ·obtain⟨its,r,pl,hz⟩:=I.tuple hq
  refine SeqAt.notIn_tupleAt (eqU x) pl (fun w hw=>Te rx fx r fs w (by simpa using hw)) ⟨.bl _,H,I,rfl,?_⟩
  rw[show its.toArray.any (eqU x)=its.any (eqU x) by simp,Rn r fs]
  exact q
theorem Sl:Vq X (.builtin "len") (fun xs H Q=>∃p ys,xs=[.ref p]∧(SqL X.K H p ys∨SqT X.K H p ys)∧Q (.int ys.length) H):=by
 intro pins s σ H xs us Q I r h
 obtain⟨p,ys,rfl,hq,q⟩:=h
 obtain⟨u,rfl,rx⟩:=Nc r
 cases rx
 have hn:=Q1
 rcases hq with hq | hq
 ·obtain⟨its,r',pl,hz⟩:=I.list hq
  have hlen:=r'.length
  exact Calls.call_len_list pl.isList (by simp only[List.size_toArray]<;>omega) ⟨.int ys.length,H,I.tok _,⟨s.toks+1,by rw[List.size_toArray,hlen]⟩,q⟩
 ·obtain⟨its,r',pl,hz⟩:=I.tuple hq
  have hlen:=r'.length
  exact len_tuple pl (by simp only[List.size_toArray]<;>omega) ⟨.int ys.length,H,I.tok _,⟨s.toks+1,by rw[List.size_toArray,hlen]⟩,q⟩
theorem Jc:Vq X (.builtin "len") (fun xs H Q=>∃z,xs=[.str z]∧z.length≤sizeLine∧Q (.int z.length) H):=by
 intro pins s σ H xs us Q I r h
 obtain⟨z,rfl,hz,q⟩:=h
 obtain⟨u,rfl,t,rfl⟩:=Nc r
 have hn:=Q1
 exact len_str (by omega) ⟨.int z.length,H,I.tok _,⟨_,rfl⟩,q⟩
theorem N2:Vq X (.type "list") (fun xs H Q=>∃p ys,xs=[.ref p]∧(SqL X.K H p ys∨SqT X.K H p ys)∧∀l,H l=none→Q (.ref l) (upd H l (.lst ys))):=by
 intro pins s σ H xs us Q I r h
 obtain⟨p,ys,rfl,hq,q⟩:=h
 obtain⟨u,rfl,rx⟩:=Nc r
 cases rx
 have fin:∀(its:List Value),Vals ys its→ys.length≤sizeLine→∀(h':Heap) (c':Nat),(∀b o',s.heap.get? b=some o'→h'.get? b=some o')→
   h'.get? s.heap.objs.size=some {cls:= .type "list",dict:=none,data:= .seq its.toArray c',slots:=#[]}→EP X pins σ Q (.ref s.heap.objs.size) {s with heap:=h'}:=fun its r' hz h' c' kp e=>
  ⟨.ref s.heap.objs.size,_,I.laid (t':=s.toks) kp (Nat.le_refl _) (show Yu X.prog X.w _ h' _ (.lst ys) from⟨hz,its,c',r',e⟩),rfl,q _ (I.hok.fresh (Nat.le_refl _))⟩
 rcases hq with hq | hq
 ·obtain⟨its,r',pl,hz⟩:=I.list hq
  have hlen:=r'.length
  obtain⟨o,ho,hc,n,hd⟩:=pl.isList
  exact call_list_seq p (.inl rfl) ho hc hd (fun h' c' kp e=>fin its r' hz h' c' kp e) (by simp only[List.size_toArray]<;>omega)
 ·obtain⟨its,r',pl,hz⟩:=I.tuple hq
  have hlen:=r'.length
  obtain⟨o,ho,hc,n,hd⟩:=pl
  exact call_list_seq p (.inr rfl) ho hc hd (fun h' c' kp e=>fin its r' hz h' c' kp e) (by simp only[List.size_toArray]<;>omega)
def tyV(K:PySem.W.Frag)(T:String)(x:V)(H:Hp):Prop:=match x with
 | .str _=>T="str"
 | .int _=>T="int"
 | .ref p=>(T="list"∧∃xs,SqL K H p xs)∨(T="tuple"∧∃o,K.lookup p=some o∧o.cls= .type "tuple"∧o.dict=none)∨
   (T="dict"∧((∃kvs,H p=some (.dK kvs))∨∃kvs,H p=some (.dT kvs)))∨(T="set"∧∃S n,H p=some (.set S n))
 | _=>False
theorem Zm7{pins:List (Addr×Obj)}{σ:St}{H:Hp}{s:Shared}{T:String}{x:V}{v:Value}(I:Inv X pins σ H s)(r:RelV x v)(ty:tyV X.K T x H):
  s.TypeIs v T∧∀a,v= .ref a→∃ob,s.heap.get? a=some ob∧ob.dict=none:=by
 cases x with
 | str z=>
  obtain⟨t,rfl⟩:=r
  cases (show T="str" from ty)
  exact⟨typeIs_str s z t,fun _ e=>nomatch e⟩
 | int i=>
  obtain⟨t,rfl⟩:=r
  cases (show T="int" from ty)
  exact⟨typeIs_int s i t,fun _ e=>nomatch e⟩
 | ref p=>
  cases r
  rcases ty with⟨rfl,xs,hq⟩ | ⟨rfl,o,hk,hc,hd⟩ | ⟨rfl,hk⟩ | ⟨rfl,S,n,hk⟩
  ·obtain⟨its,_,pl,_⟩:=I.list hq
   refine⟨pl.isList.typeIs,fun a e=>?_⟩
   cases e
   obtain⟨o,n,e,c,hd,_⟩:=pl
   exact⟨o,e,hd⟩
  ·refine⟨⟨o,I.kIn p o hk,hc⟩,fun a e=>?_⟩
   cases e
   exact⟨o,I.kIn _ o hk,hd⟩
  ·have z:∃o,s.heap.get? p=some o∧o.ExactDict:=by
    rcases hk with⟨kvs,hk⟩ | ⟨kvs,hk⟩
    ·obtain⟨_,_,_,_,o,_,_,e,ex,_⟩:=I.hok p _ hk
     exact⟨o,e,ex⟩
    ·obtain⟨_,_,_,_,o,_,_,e,ex,_⟩:=I.hok p _ hk
     exact⟨o,e,ex⟩
   obtain⟨o,e,ex⟩:=z
   refine⟨⟨o,e,ex.1⟩,fun a e2=>?_⟩
   cases e2
   exact⟨o,e,ex.2.1⟩
  ·obtain⟨o,_,_,_,e,ex,_⟩:=I.hok p _ hk
   refine⟨⟨o,e,ex.1⟩,fun a e2=>?_⟩
   cases e2
   exact⟨o,e,ex.2.1⟩
 | _=>exact False.elim ty
def tBM0(K:PySem.W.Frag)(T:String)(r:V→List V→Hp→VK→Prop)(to:TE):TE:=fun σ H Q=>to σ H fun x H1=>tyV K T x H1∧r x [] H1 Q
def tBM(K:PySem.W.Frag)(T:String)(r:V→List V→Hp→VK→Prop)(to:TE)(t:TA):TE:=fun σ H Q=>to σ H fun x H1=>tyV K T x H1∧t σ H1 fun xs H2=>r x xs H2 Q
variable{o e:Expr}{es:List Expr}{to:TE}{t:TA}{name:Str}{apos cpos:Pos}{T id:String}{r:V→List V→Hp→VK→Prop}
theorem Zy8(pa:PlainAttrs T)(slot:Slot T name id)(hty:typeOf (.builtin id)=pure (.type "method_descriptor"))(hm:MtR X id r)(ho:PE X o to)
  (hbase:attributeBase o name X.env (eval o X.env)=eval o X.env:=by rfl) (hline:(apos.endLine==cpos.line)=true:=by rfl):PE X (.Call (.Attribute o name apos) [] [] cpos) (tBM0 X.K T r to):=by
 intro pins s σ H Q I h
 refine wpAny_Call_method0_late hbase hline (thn (ho pins s σ H _ I h) fun v s1 zz41=>?_)
 obtain⟨x,H1,I1,r1,ty,q1⟩:=zz41
 obtain⟨h1,h2⟩:=Zm7 I1 r1 ty
 exact⟨T,id,pa,slot,hty,h1,h2,Calls.callWith_builtin rfl (PySem.evalArgs_none (hm pins s1 σ H1 x [] v [] Q I1 r1 .nil q1))⟩
theorem Y95(pa:PlainAttrs T)(slot:Slot T name id)(hty:typeOf (.builtin id)=pure (.type "method_descriptor"))(hm:MtR X id r)(ho:PE X o to)(ha:PA X (e::es) t)
  (hbase:attributeBase o name X.env (eval o X.env)=eval o X.env:=by rfl)
  (hfew:((backTo cpos (starEach (e::es) X.env)).all (fun x=> !x.1)&&(backToKw cpos (keywordEach [] X.env)).all (fun x=>x.1.isSome)
   &&decide ((e::es).length+([]:List Keyword).length+(if ([]:List Keyword).isEmpty then 0 else 1)<30))=true:=by rfl)
  (hline:(apos.endLine==cpos.line)=true:=by rfl) (hs:starEach (e::es) X.env=(false,eval e X.env)::starEach es X.env:=by rfl) (hplain:(backTo cpos (starEach es X.env)).any (·.1)=false:=by rfl):
  PE X (.Call (.Attribute o name apos) (e::es) [] cpos) (tBM X.K T r to t):=by
 intro pins s σ H Q I h
 refine wpAny_Call_method_late hbase hfew hline rfl (thn (ho pins s σ H _ I h) fun v s1 zz42=>?_)
 obtain⟨x,H1,I1,r1,ty,q1⟩:=zz42
 obtain⟨h1,h2⟩:=Zm7 I1 r1 ty
 refine⟨T,id,pa,slot,hty,h1,h2,?_⟩
 have hA:=ha cpos pins s1 σ H1 _ I1 q1
 rw[hs] at hA ⊢
 refine Calls.callWith_builtin (by show(false || (backTo cpos (starEach es X.env)).any (·.1))=false;rw[hplain]<;>rfl) (Calls.evalArgs_plain ?_)
 exact thn hA fun us s2 zz43=>by obtain⟨vs,H2,I2,r2,q2⟩:=zz43;exact hm pins s2 σ H2 x vs v us Q I2 r1 r2 q2
end
def MtM(X:Cx)(id:String)(r:V→List V→Hp→VK→Prop):Prop:=
 ∀(pins:List (Addr×Obj)) (s:Shared) (σ:St) (H:Hp) (x:V) (xs:List V) (v:Value) (us:List Value) (Q:VK),Inv X pins σ H s→RelV x v→Vals xs us→r x xs H Q→
  wpAny (model X.prog X.w) X.A (call (.builtin id) (v::us)) (EP X pins σ Q) X.xe s
theorem Vals.one:∀{x:V} {us:List Value},Vals [x] us→∃u,us=[u]∧RelV x u
 | _,_,.cons r .nil=>⟨_,rfl,r⟩
theorem Vals.zero:∀{us:List Value},Vals [] us→us=[]
 | _,.nil=>rfl
theorem Vals.dropLast{xs:List V}{us:List Value}(h:Vals xs us):Vals xs.dropLast us.dropLast:=by
 induction h with
 | nil=>exact .nil
 | cons r t ih=>
  cases t with
  | nil=>exact .nil
  | cons q t'=>exact .cons r ih
theorem Vals.reverse{xs:List V}{us:List Value}(h:Vals xs us):Vals xs.reverse us.reverse:=by
 induction h with
 | nil=>exact .nil
 | cons r t ih=>rw[List.reverse_cons,List.reverse_cons];exact Vals.append ih (.cons r .nil)
theorem Vals.rep{xs:List V}{us:List Value}(h:Vals xs us):∀k:Nat,Vals (List.replicate k xs).flatten (List.replicate k us).flatten
 | 0=> .nil
 | k+1=>by
  rw[List.replicate_succ,List.replicate_succ,List.flatten_cons,List.flatten_cons]
  exact Vals.append h (Vals.rep h k)
theorem Cd{α:Type}(l:List α):l.eraseIdx (l.length - 1)=l.dropLast:=by
 induction l with
 | nil=>rfl
 | cons a r ih=>
  cases r with
  | nil=>rfl
  | cons b r=>
   have e:(a::b::r).length - 1=((b::r).length - 1)+1:=by
    have h1:(a::b::r).length=r.length+2:=rfl
    have h2:(b::r).length=r.length+1:=rfl
    omega
   rw[e,List.eraseIdx_cons_succ,ih]
   all_goals rfl
theorem Jh(its:List Value):∀(k:Nat) (acc:List Value),
  List.foldl (fun x1 x2=>x1++x2) acc.toArray (List.replicate k its.toArray)=(acc++(List.replicate k its).flatten).toArray
 | 0,acc=>by simp
 | k+1,acc=>by
  have e:acc.toArray++its.toArray=(acc++its).toArray:=by simp
  have e2:(acc++its)++(List.replicate k its).flatten=acc++(List.replicate (k+1) its).flatten:=by
   rw[List.replicate_succ,List.flatten_cons,List.append_assoc]
  rw[←e2,←Jh its k (acc++its),←e,List.replicate_succ,List.foldl_cons]
section
variable{X:Cx}{pins:List (Addr×Obj)}{σ:St}{H:Hp}{s:Shared}{l b:Addr}{xs ys zs:List V}
theorem Inv.lset{its its':List Value}{n:Nat}{f:Array Value→Array Value}{t':Nat}(I:Inv X pins σ H s)(hH:H l=some (.lst xs))
  (e:s.heap.get? l=some {cls:= .type "list",data:= .seq its.toArray n}) (hf:f its.toArray=its'.toArray) (hv:Vals ys its') (hz:ys.length≤sizeLine):
  Inv X pins σ (upd H l (.lst ys)) {s with heap:=s.heap.update l (Obj.mapSeq f),toks:=t'}:=by
 have q:=PySem.IsL.update e f
 rw[hf] at q
 refine I.write (x:=l) (e:=l) (by rw[hH];exact trivial) (.inl rfl) (fun b' u hb hu=>(Heap.get?_update_other s.heap (Obj.mapSeq f) (Ne.symm hb)).trans hu) ⟨_,q⟩ ?_
 exact⟨hz,its',_,hv,q⟩
theorem Inv.lnew{its:List Value}{t':Nat}(I:Inv X pins σ H s)(hv:Vals ys its)(hz:ys.length≤sizeLine):
  Inv X pins σ (upd H s.heap.objs.size (.lst ys)) {s with heap:=s.heap.push {cls:= .type "list",data:= .seq its.toArray},toks:=t'}:=
 I.laid (fun _ _ q=>Heap.get?_push_of_some _ q) (Nat.le_refl _) ⟨hz,its,0,hv,Heap.get?_push_size _ rfl⟩
theorem Inv.fresh(I:Inv X pins σ H s):H s.heap.objs.size=none:=I.hok.fresh (Nat.le_refl _)
theorem Inv.lstM(I:Inv X pins σ H s)(hH:H l=some (.lst xs)):xs.length≤sizeLine∧∃(its:List Value) (n:Nat),Vals xs its∧xs.length=its.length∧s.heap.get? l=some {cls:= .type "list",data:= .seq its.toArray n}:=by
 obtain⟨z,its,n,r,e⟩:=I.hok l _ hH
 exact⟨z,its,n,r,r.length,e⟩
theorem Zf0{n:Nat}(h:n≤sizeLine):Builtin.List.listTooLong n=false:=by
 unfold Builtin.List.listTooLong
 exact decide_eq_false (by omega)
end
section
variable{X:Cx}
def Zu5:V→List V→Hp→VK→Prop:=fun x vs H Q=>∃l xs y,x= .ref l∧vs=[y]∧H l=some (.lst xs)∧xs.length<sizeLine∧Q .non (upd H l (.lst (xs++[y])))
theorem Q5:MtM X "list.append" Zu5:=by
 intro pins s σ H x vs v us Q I rx rv h
 obtain⟨l,xs,y,rfl,rfl,hH,hz,q⟩:=h
 cases rx
 obtain⟨u,rfl,ru⟩:=rv.one
 obtain⟨z,its,n,r,hl,e⟩:=I.lstM hH
 refine call_meets F.slot_list_append ⟨_,e,rfl⟩ F.entry_list_append (F.args_list_append_2 _ _) (PySem.list_append l its.toArray n u (by rw[List.size_toArray];omega)) ⟨e,?_⟩
 refine⟨.non,_,I.lset (its':=its++[u]) hH e (by simp) (r.append (.cons ru .nil)) ?_,rfl,q⟩
 rw[List.length_append,List.length_singleton]
 omega
def rPop:V→List V→Hp→VK→Prop:=fun x vs H Q=>∃l xs y,x= .ref l∧vs=[]∧H l=some (.lst xs)∧xs[xs.length - 1]?=some y∧Q y (upd H l (.lst xs.dropLast))
theorem Y25:MtM X "list.pop" rPop:=by
 intro pins s σ H x vs v us Q I rx rv h
 obtain⟨l,xs,y,rfl,rfl,hH,hy,q⟩:=h
 cases rx
 have hus:=rv.zero
 subst hus
 obtain⟨z,its,n,r,hl,e⟩:=I.lstM hH
 obtain⟨u,hu,ru⟩:=r.get hy
 have hy':its.toArray[its.toArray.size - 1]?=some u:=by
  show its.toArray[its.length - 1]?=some u
  rw[←Array.getElem?_toList,←hl]
  exact hu
 refine call_meets F.slot_list_pop ⟨_,e,rfl⟩ F.entry_list_pop (F.args_list_pop_1 _) (MeetsSeq.list_pop_last l its.toArray n u hy' (by rw[List.size_toArray];omega)) ⟨e,?_⟩
 refine⟨y,_,I.lset (its':=its.dropLast) hH e ?_ r.dropLast ?_,ru,q⟩
 ·show its.toArray.eraseIdxIfInBounds (its.toArray.size - 1)=its.dropLast.toArray
  rw[List.size_toArray,List.eraseIdxIfInBounds_toArray,Cd]
 ·rw[List.length_dropLast]
  omega
def rCat:R2:=fun x y H Q=>∃l b xs zs,x= .ref l∧y= .ref b∧H l=some (.lst xs)∧H b=some (.lst zs)∧xs.length+zs.length≤sizeLine∧∀p,H p=none→Q (.ref p) (upd H p (.lst (xs++zs)))
theorem Y03:OpR X (binaryOp .Add) rCat:=by
 intro pins s σ H x y v u Q I rx ry h
 obtain⟨l,b,xs,zs,rfl,rfl,hH,hB,hz,q⟩:=h
 cases rx
 cases ry
 obtain⟨z,its,n,r,hl,e⟩:=I.lstM hH
 obtain⟨z2,its2,n2,r2,hl2,e2⟩:=I.lstM hB
 refine PySem.P.add_list e e2 ?_ (by rw[List.size_toArray,List.size_toArray];omega)
 have ea:its.toArray++its2.toArray=(its++its2).toArray:=by simp
 rw[ea]
 exact⟨.ref _,_,I.lnew (t':=s.toks) (r.append r2) (by rw[List.length_append];omega),rfl,q _ I.fresh⟩
def rRep:R2:=fun x y H Q=>∃l k xs,x= .ref l∧y= .int k∧H l=some (.lst xs)∧ -(2 ^ 63)≤k∧k<2 ^ 63∧xs.length * k.toNat≤sizeLine∧
 ∀p,H p=none→Q (.ref p) (upd H p (.lst (List.replicate k.toNat xs).flatten))
theorem Zr6{α:Type}(xs:List α)(k:Nat):(List.replicate k xs).flatten.length=k * xs.length:=by
 induction k with
 | zero=>simp
 | succ k ih=>rw[List.replicate_succ,List.flatten_cons,List.length_append,ih,Nat.succ_mul,Nat.add_comm]
theorem Zz0:OpR X (binaryOp .Mult) rRep:=by
 intro pins s σ H x y v u Q I rx ry h
 obtain⟨l,k,xs,rfl,rfl,hH,h1,h2,hz,q⟩:=h
 cases rx
 obtain⟨t,rfl⟩:=ry
 obtain⟨z,its,n,r,hl,e⟩:=I.lstM hH
 have hlen:its.toArray.size * k.toNat≤sizeLine:=by rw[List.size_toArray,←hl];exact hz
 have hcap:¬its.toArray.size * k.toNat >(2 ^ 63 - 1) / 8:=by
  have:(sizeLine:Nat)≤(2 ^ 63 - 1) / 8:=by decide
  omega
 have hfit:¬(!Builtin.List.listFitsIndex k)=true:=by
  rw[fitsIndex_both h1 h2]
  exact Bool.false_ne_true
 have hlong:¬Builtin.List.listTooLong (its.toArray.size * k.toNat)=true:=by
  rw[Zf0 hlen]
  exact Bool.false_ne_true
 have hnew:List.foldl (fun x1 x2=>x1++x2) #[] (List.replicate (if its.toArray.isEmpty=true then 0 else k.toNat) its.toArray)=(List.replicate k.toNat its).flatten.toArray:=by
  have f0:∀m:Nat,List.foldl (fun x1 x2=>x1++x2) #[] (List.replicate m its.toArray)=(List.replicate m its).flatten.toArray:=fun m=>by
   have:=Jh its m []
   rw[List.nil_append] at this
   exact this
  rw[f0]
  cases its with
  | nil=>simp
  | cons a r'=>rw[if_neg (by simp)]
 refine wpAny_binaryOp_repeat_ref (T:="list") (U:="int") (by decide) ⟨_,e,rfl⟩ (fun s'=>typeIs_int s' k t) noFill_list_mul F.fills_int_mul F.slot_int_rmul repeat_list F.slot_int_index.lookup
  (call_meets F.slot_int_rmul (typeIs_int s k t) F.entry_int_rmul (F.args_int_rmul_2 _ _) (int___rmul___int_list k t l its.toArray n)
   ⟨e,rfl,⟨_,e,rfl⟩,call_meets F.slot_list_mul ⟨_,e,rfl⟩ F.entry_list_mul (F.args_list_mul_2 _ _) (AutoListH.list___mul___list_int_3 l its.toArray n k t hfit hcap hlong) ⟨e,?_⟩⟩)
 rw[hnew]
 exact⟨.ref _,_,I.lnew (t':=s.toks) (r.rep k.toNat) (by rw[Zr6,Nat.mul_comm];exact hz),rfl,q _ I.fresh⟩
end
section
variable{prog:Program}{w:World}{A:Around}{E:Value→Shared→Prop}{s:Shared}
set_option maxRecDepth 100000 in
end
section
variable{X:Cx}
end
section
variable{κ:Type}[DecidableEq κ]
noncomputable def valV(kvs:List (κ×V))(k:κ):Option V:=(kvs.find? fun kv=>decide (kv.1=k)).map (·.2)
noncomputable def putK(kvs:List (κ×V))(k:κ)(v:V):List (κ×V):=
 if (kvs.any fun kv=>decide (kv.1=k))=true then kvs.map (fun kv=>if kv.1=k then(kv.1,v) else kv) else kvs++[(k,v)]
theorem Ob{p:κ×V}{r:List (κ×V)}{k:κ}(e:p.1=k):valV (p::r) k=some p.2:=by simp[valV,List.find?_cons,e]
theorem Oj{p:κ×V}{r:List (κ×V)}{k:κ}(e:¬p.1=k):valV (p::r) k=valV r k:=by simp[valV,List.find?_cons,e]
theorem Eg(k:κ):∀kvs:List (κ×V),(kvs.any fun kv=>decide (kv.1=k))=(valV kvs k).isSome
 | []=>rfl
 | p::r=>by
  rw[List.any_cons]
  by_cases e:p.1=k
  ·simp only[Ob e,decide_eq_true e,Bool.true_or,Option.isSome_some]
  ·rw[Oj e,decide_eq_false e,Bool.false_or];exact Eg k r
theorem Wc(kvs:List (κ×V))(k:κ)(v:V):(putK kvs k v).length≤kvs.length+1:=by
 unfold putK
 split
 ·rw[List.length_map];omega
 ·rw[List.length_append,List.length_cons,List.length_nil];omega
theorem RelO.isSome_eq{o:Option V}{u:Option Value}(r:RelO o u):o.isSome=u.isSome:=by
 cases o with
 | none=>cases u with
  | none=>rfl
  | some _=>exact(show False from r).elim
 | some _=>cases u with
  | none=>exact(show False from r).elim
  | some _=>rfl
theorem RelO.getD{o:Option V}{u:Option Value}{d:V}{d':Value}(r:RelO o u)(rd:RelV d d'):RelV (o.getD d) (u.getD d'):=by
 cases o with
 | none=>cases u with
  | none=>exact rd
  | some _=>exact(show False from r).elim
 | some _=>cases u with
  | none=>exact(show False from r).elim
  | some _=>exact r
theorem KV.val{kvs:List (κ×V)}{vs:List (κ×Value)}(r:KV kvs vs)(k:κ):RelO (valV kvs k) (valueAt vs k):=by
 unfold KV at r
 induction r with
 | nil=>exact True.intro
 | @cons p q ps qs h t ih=>
  obtain⟨h1,h2⟩:=h
  by_cases e:p.1=k
  ·have e':q.1=k:=h1.symm.trans e
   have b:valueAt (q::qs) k=some q.2:=by simp[valueAt,List.find?_cons,e']
   rw[Ob e,b];exact h2
  ·have e':¬q.1=k:=fun z=>e (h1.trans z)
   have b:valueAt (q::qs) k=valueAt qs k:=by simp[valueAt,List.find?_cons,e']
   rw[Oj e,b];exact ih
theorem KV.any{kvs:List (κ×V)}{vs:List (κ×Value)}(r:KV kvs vs)(k:κ):(kvs.any fun kv=>decide (kv.1=k))=vs.any fun kv=>decide (kv.1=k):=by
 unfold KV at r
 induction r with
 | nil=>rfl
 | cons h t ih=>rw[List.any_cons,List.any_cons,ih,h.1]
theorem KV.repl{kvs:List (κ×V)}{vs:List (κ×Value)}(r:KV kvs vs)(k:κ){y:V}{u:Value}(ry:RelV y u):
  KV (kvs.map fun kv=>if kv.1=k then(kv.1,y) else kv) (vs.map fun kv=>if kv.1=k then(kv.1,u) else kv):=by
 unfold KV at r ⊢
 induction r with
 | nil=>exact .nil
 | @cons p q ps qs h t ih=>
  rw[List.map_cons,List.map_cons]
  refine .cons ?_ ih
  obtain⟨h1,h2⟩:=h
  by_cases e:p.1=k
  ·rw[if_pos e,if_pos (h1.symm.trans e)];exact⟨h1,ry⟩
  ·rw[if_neg e,if_neg (fun z=>e (h1.trans z))];exact⟨h1,h2⟩
theorem KV.put{kvs:List (κ×V)}{vs:List (κ×Value)}(r:KV kvs vs)(k:κ){y:V}{u:Value}(ry:RelV y u):KV (putK kvs k y) (stored vs k u):=by
 unfold putK stored
 rw[r.any k]
 by_cases e:(vs.any fun kv=>decide (kv.1=k))=true
 ·rw[if_pos e,if_pos e];exact r.repl k ry
 ·rw[if_neg e,if_neg e];exact Paired.snoc r ⟨rfl,ry⟩
theorem KV.length{kvs:List (κ×V)}{vs:List (κ×Value)}(r:KV kvs vs):kvs.length=vs.length:=Paired.length r
end
theorem J2{P:Program}{w:World}{k:Key}{u:Value}(r:RelV (kV k) u):(Y6 P w).is k u=true:=by
 cases k with
 | inl i=>obtain⟨t,e⟩:=(show ∃t,u=Value.int i t from r);subst e;exact G5 P w i t
 | inr x=>obtain⟨t,e⟩:=(show ∃t,u=Value.str x t from r);subst e;exact Gp P w x t
theorem Np{P:Program}{w:World}:∀{ks:List Key} {us:List Value},Vals (ks.map kV) us→ItemsAre (Y6 P w) ks us
 | [],_,r=>by rw[List.map_nil] at r;cases r;exact .nil
 | k::ks,_,r=>by
  rw[List.map_cons] at r
  cases r with
  | cons h t=>exact .cons (J2 h) (Np t)
abbrev KT(H:Hp):List (List Key×V)→List (List Key×Addr×Value)→Prop:=Paired fun p q=>p.1=q.1∧H q.2.1=some (.tup (p.1.map kV))∧RelV p.2 q.2.2
theorem KT.val{H:Hp}{kvs:List (List Key×V)}{xs:List (List Key×Addr×Value)}(r:KT H kvs xs)(k:List Key):RelO (valV kvs k) ((atKey xs k).map (·.2)):=by
 induction r with
 | nil=>exact True.intro
 | @cons p q ps qs h t ih=>
  obtain⟨h1,_,h2⟩:=h
  by_cases e:p.1=k
  ·have e':q.1=k:=h1.symm.trans e
   have b:atKey (q::qs) k=some q.2:=by simp[atKey,List.find?_cons,e']
   rw[Ob e,b];exact h2
  ·have e':¬q.1=k:=fun z=>e (h1.trans z)
   have b:atKey (q::qs) k=atKey qs k:=by simp[atKey,List.find?_cons,e']
   rw[Oj e,b];exact ih
theorem KT.repl{H:Hp}{kvs:List (List Key×V)}{xs:List (List Key×Addr×Value)}(r:KT H kvs xs)(k:List Key){y:V}{u:Value}(ry:RelV y u):
  KT H (kvs.map fun kv=>if kv.1=k then(kv.1,y) else kv) (xs.map (putAt k u)):=by
 induction r with
 | nil=>exact .nil
 | @cons p q ps qs h t ih=>
  rw[List.map_cons,List.map_cons]
  refine .cons ?_ ih
  obtain⟨h1,h2,h3⟩:=h
  unfold putAt
  by_cases e:p.1=k
  ·rw[if_pos e,if_pos (h1.symm.trans e)];exact⟨h1,h2,ry⟩
  ·rw[if_neg e,if_neg (fun z=>e (h1.trans z))];exact⟨h1,h2,h3⟩
theorem KT.put{H:Hp}{kvs:List (List Key×V)}{xs:List (List Key×Addr×Value)}(r:KT H kvs xs)(k:List Key){b:Addr}{y:V}{u:Value}(hb:H b=some (.tup (k.map kV)))(ry:RelV y u):
  KT H (putK kvs k y) (storedH xs k b u):=by
 have e:(kvs.any fun kv=>decide (kv.1=k))=(atKey xs k).isSome:=by
  rw[Eg,(r.val k).isSome_eq,Option.isSome_map]
 unfold putK storedH
 rw[e]
 by_cases q:(atKey xs k).isSome=true
 ·rw[if_pos q,if_pos q];exact r.repl k ry
 ·rw[if_neg q,if_neg q];exact Paired.snoc r ⟨rfl,hb,ry⟩
theorem KT.keeps{H H':Hp}{kvs:List (List Key×V)}{xs:List (List Key×Addr×Value)}(r:KT H kvs xs)(ht:∀b ys,H b=some (.tup ys)→H' b=some (.tup ys)):KT H' kvs xs:=
 Paired.mapP r fun _ _ z=>⟨z.1,ht _ _ z.2.1,z.2.2⟩
section
variable{P:Program}{w:World}{H:Hp}{h:Heap}{a:Addr}
theorem Y44{u:HO}(ok:HOk P w H h)(e:Rd H a u):Yu P w H h a u:=e.ok ok
theorem N4{kvs:List (Key×V)}(ok:HOk P w H h)(e:Rd H a (.dK kvs)):kvs.length≤sizeLine∧(a==sysModules)=false∧∃vs,KV kvs vs∧h.DictOf (Y6 P w) a vs:=
 show Yu P w H h a (.dK kvs) from Y44 ok e
theorem Bd{kvs:List (Key×V)}(ok:HOk P w H h)(e:H a=some (.dK kvs)):kvs.length≤sizeLine∧(a==sysModules)=false∧∃vs,KV kvs vs∧h.DictOf (Y6 P w) a vs:=N4 ok (.inl e)
theorem Py{ks:List Key}(ok:HOk P w H h)(e:H a=some (.tup (ks.map kV))):(tupleKind (Y6 P w)).is h ks a:=by
 obtain⟨_,its,r,o,h1,h2,n,h3⟩:=(show Yu P w H h a (.tup (ks.map kV)) from ok a _ e)
 exact⟨o,its.toArray,n,h1,h2,h3,by simpa using Np r⟩
theorem Ce{kvs:List (List Key×V)}(ok:HOk P w H h)(e:Rd H a (.dT kvs)):kvs.length≤sizeLine∧(a==sysModules)=false∧
  ∃xs,KT H kvs xs∧h.DictOfH (tupleKind (Y6 P w)) a xs:=by
 obtain⟨z,y,xs,r,o,es,ep,h1,h2,h3,h4,h5⟩:=(show Yu P w H h a (.dT kvs) from Y44 ok e)
 refine⟨z,y,xs,r,o,es,ep,h1,h2,h3,h4,fun x hx=>?_,h5⟩
 have all:∀{l:List (List Key×V)} {m:List (List Key×Addr×Value)},KT H l m→∀x∈m,(tupleKind (Y6 P w)).is h x.1 x.2.1:=by
  intro l m q
  induction q with
  | nil=>intro x hx;exact nomatch hx
  | @cons p q ps qs hq t ih=>
   intro x hx
   rcases List.mem_cons.mp hx with e | hx
   ·subst e
    exact Py ok (by rw[←hq.1];exact hq.2.1)
   ·exact ih x hx
 exact all r x hx
theorem Y64{kvs:List (List Key×V)}(ok:HOk P w H h)(e:H a=some (.dT kvs)):kvs.length≤sizeLine∧(a==sysModules)=false∧
  ∃xs,KT H kvs xs∧h.DictOfH (tupleKind (Y6 P w)) a xs:=Ce ok (.inl e)
end
def DGet(H:Hp)(a:Addr)(y:V)(r:Option V):Prop:=
 (∃kvs k,Rd H a (.dK kvs)∧y=kV k∧r=valV kvs k)∨∃kvs k b,Rd H a (.dT kvs)∧y= .ref b∧H b=some (.tup (k.map kV))∧r=valV kvs k
def DPut(H:Hp)(a:Addr)(y v:V)(H':Hp):Prop:=
 (∃kvs k,H a=some (.dK kvs)∧y=kV k∧kvs.length<sizeLine∧H'=upd H a (.dK (putK kvs k v)))∨
 ∃kvs k b,H a=some (.dT kvs)∧y= .ref b∧H b=some (.tup (k.map kV))∧kvs.length<sizeLine∧H'=upd H a (.dT (putK kvs k v))
theorem DGet.k{H:Hp}{a:Addr}{kvs:List (Key×V)}{k:Key}(e:H a=some (.dK kvs)):DGet H a (kV k) (valV kvs k):= .inl ⟨kvs,k,.inl e,rfl,rfl⟩
theorem DGet.t{H:Hp}{a b:Addr}{kvs:List (List Key×V)}{k:List Key}(e:H a=some (.dT kvs))(eb:H b=some (.tup (k.map kV))):DGet H a (.ref b) (valV kvs k):= .inr ⟨kvs,k,b,.inl e,rfl,eb,rfl⟩
theorem DPut.k{H:Hp}{a:Addr}{kvs:List (Key×V)}{k:Key}{v:V}(e:H a=some (.dK kvs))(hl:kvs.length<sizeLine):DPut H a (kV k) v (upd H a (.dK (putK kvs k v))):= .inl ⟨kvs,k,e,rfl,hl,rfl⟩
theorem DPut.t{H:Hp}{a b:Addr}{kvs:List (List Key×V)}{k:List Key}{v:V}(e:H a=some (.dT kvs))(eb:H b=some (.tup (k.map kV)))(hl:kvs.length<sizeLine):
  DPut H a (.ref b) v (upd H a (.dT (putK kvs k v))):= .inr ⟨kvs,k,b,e,rfl,eb,hl,rfl⟩
section
variable{X:Cx}{pins:List (Addr×Obj)}{σ:St}{H:Hp}{s:Shared}{a:Addr}{y v:V}{u r:Value}{o:Option V}{A:Around}{E:Value→Shared→Prop}
theorem Inv.big(I:Inv X pins σ H s):sysModules<s.heap.objs.size:=by
 have h:mainGlobals<s.heap.objs.size:=(I.mod.glob.keeps I.bk).lt
 exact Nat.lt_trans (by decide) h
theorem Z70{Q:Value→Shared→Prop}(hu:A.units+1<cLine)(I:Inv X pins σ H s)(g:DGet H a y (some v))(ry:RelV y u)(h:∀w' s',Inv X pins σ H s'→RelV v w'→Q w' s'):
  wpAny (model X.prog X.w) A (getItem (.ref a) u) Q E s:=by
 rcases g with⟨kvs,k,e,ey,l⟩ | ⟨kvs,k,b,e,ey,eb,l⟩
 ·subst ey
  obtain⟨z,hd,vs,rel,dd⟩:=N4 I.hok e
  obtain⟨w',hw,rw'⟩:=RelO.some_of (v:=v) (o:=valueAt vs k) (by rw[l];exact rel.val k)
  exact wpAny_getItem_of (J2 ry) dd.mapOf hw (h w' _ (I.tok _) rw')
 ·subst ey
  cases (show u=Value.ref b from ry)
  obtain⟨z,hd,xs,rel,dd⟩:=Ce I.hok e
  obtain⟨w',hw,rw'⟩:=RelO.some_of (v:=v) (o:=(atKey xs k).map (·.2)) (by rw[l];exact rel.val k)
  obtain⟨p,hp,hp2⟩:=Option.map_eq_some_iff.mp hw
  refine wpAny_getItem_heap (tupleKind_room_in1 hu) (Py I.hok eb) dd hp ?_
  rw[hp2]
  exact h w' _ (I.tok _) rw'
theorem d_in{Q:Value→Shared→Prop}(hu:A.units+1<cLine)(I:Inv X pins σ H s)(g:DGet H a y o)(ry:RelV y u)(h:∀s',Inv X pins σ H s'→Q (.bool o.isSome) s'):
  wpAny (model X.prog X.w) A (compareOp .In u (.ref a)) Q E s:=by
 rcases g with⟨kvs,k,e,ey,l⟩ | ⟨kvs,k,b,e,ey,eb,l⟩
 ·subst ey
  obtain⟨z,hd,vs,rel,dd⟩:=N4 I.hok e
  refine wpAny_in_of (J2 ry) hd dd.mapOf ?_
  rw[←(rel.val k).isSome_eq,←l]
  exact h _ (I.tok _)
 ·subst ey
  cases (show u=Value.ref b from ry)
  obtain⟨z,hd,xs,rel,dd⟩:=Ce I.hok e
  refine wpAny_in_heap (tupleKind_room_in1 hu) (Py I.hok eb) hd dd ?_
  have q:=(rel.val k).isSome_eq
  rw[Option.isSome_map] at q
  rw[←q,←l]
  exact h _ (I.tok _)
theorem Zn8{Q:Value→Shared→Prop}(hu:A.units+1<cLine)(I:Inv X pins σ H s)(g:DGet H a y o)(ry:RelV y u)(h:∀s',Inv X pins σ H s'→Q (.bool (!o.isSome)) s'):
  wpAny (model X.prog X.w) A (compareOp .NotIn u (.ref a)) Q E s:=by
 rcases g with⟨kvs,k,e,ey,l⟩ | ⟨kvs,k,b,e,ey,eb,l⟩
 ·subst ey
  obtain⟨z,hd,vs,rel,dd⟩:=N4 I.hok e
  refine wpAny_notIn_of (J2 ry) hd dd.mapOf ?_
  rw[←(rel.val k).isSome_eq,←l]
  exact h _ (I.tok _)
 ·subst ey
  cases (show u=Value.ref b from ry)
  obtain⟨z,hd,xs,rel,dd⟩:=Ce I.hok e
  refine wpAny_notIn_heap (tupleKind_room_in1 hu) (Py I.hok eb) hd dd ?_
  have q:=(rel.val k).isSome_eq
  rw[Option.isSome_map] at q
  rw[←q,←l]
  exact h _ (I.tok _)
theorem G6{h':Heap}{t':Nat}{ob:HO}(I:Inv X pins σ H s)(mu:Mut (H a))(hs:Heap.SameBut a s.heap h')(he:∃q,h'.get? a=some q)(new:Yu X.prog X.w (upd H a ob) h' a ob):
  Inv X pins σ (upd H a ob) {s with heap:=h',toks:=t'}:=
 I.write (x:=a) (e:=a) mu (.inl rfl) (fun b q hb z=>(hs.2 b hb).trans z) he new
theorem El{P:Program}{w:World}{H':Hp}{h':Heap}{kvs:List (Key×V)}{vs:List (Key×Value)}(z:kvs.length≤sizeLine)(hd:(a==sysModules)=false)(rel:KV kvs vs)(dd:h'.DictOf (Y6 P w) a vs):
  Yu P w H' h' a (.dK kvs):=⟨z,hd,vs,rel,dd⟩
theorem Z50{H':Hp}{Q:Unit→Shared→Prop}(hu:A.units+1<cLine)(I:Inv X pins σ H s)(g:DPut H a y v H')(ry:RelV y u)(rv:RelV v r)(h:∀s',Inv X pins σ H' s'→Q () s'):
  wpAny (model X.prog X.w) A (setItem (.ref a) u r) Q E s:=by
 rcases g with⟨kvs,k,e,ey,l,eH⟩ | ⟨kvs,k,b,e,ey,eb,l,eH⟩
 ·subst ey eH
  obtain⟨z,hd,vs,rel,dd⟩:=Bd I.hok e
  have hz:vs.length≤sizeLine:=by rw[←rel.length];exact z
  have hl:(putK kvs k v).length≤sizeLine:=by have:=Wc kvs k v;omega
  refine wpAny_setItem_pairs (hsz:=hz) (J2 ry) dd fun h' dd' hs=>h _ ?_
  have he:∃q,h'.get? a=some q:=by obtain⟨q,_,_,hq,_⟩:=dd';exact⟨q,hq⟩
  exact G6 I (by rw[e];exact True.intro) hs he (El hl hd (rel.put k rv) dd')
 ·subst ey eH
  cases (show u=Value.ref b from ry)
  obtain⟨z,hd,xs,rel,dd⟩:=Y64 I.hok e
  have hz:xs.length≤sizeLine:=by rw[←Paired.length rel];exact z
  have hl:(putK kvs k v).length≤sizeLine:=by have:=Wc kvs k v;omega
  refine wpAny_setItem_heap (hsz:=hz) (tupleKind_room_in1 hu) (Py I.hok eb) dd fun h' dd' hs=>h _ ?_
  obtain⟨q,es,ep,hq,h2,h3,h4,_,h5⟩:=dd'
  refine G6 I (by rw[e];exact True.intro) hs ⟨q,hq⟩ ⟨hl,hd,_,(rel.put k eb rv).keeps fun c ys ec=>?_,q,es,ep,hq,h2,h3,h4,h5⟩
  rw[Z9 (Y61 ec e (fun z=>nomatch z))]
  exact ec
end
section
variable{X:Cx}{pins:List (Addr×Obj)}{σ:St}{H:Hp}{s:Shared}{a:Addr}{kvs:List (Key×V)}{k:Key}{u:Value}{A:Around}{E:Value→Shared→Prop}
theorem Y57{Q:Value→Shared→Prop}(I:Inv X pins σ H s)(e:Rd H a (.dK kvs))(h:∀t s',Inv X pins σ H s'→Q (.int kvs.length t) s'):wpAny (model X.prog X.w) A (call (.builtin "len") [.ref a]) Q E s:=by
 obtain⟨z,hd,vs,rel,dd⟩:=N4 I.hok e
 refine call_len_dict hd dd (by rw[←rel.length];rw[sizeLine_eq] at z;omega) ?_
 rw[←rel.length]
 exact h _ _ (I.tok _)
end
theorem Gg{X:Cx}{pins:List (Addr×Obj)}{σ:St}{H:Hp}{s:Shared}{a:Addr}{y:V}{o:Option V}(I:Inv X pins σ H s)(g:DGet H a y o):s.TypeIs (.ref a) "dict":=by
 rcases g with⟨kvs,k,e,_,_⟩ | ⟨kvs,k,b,e,_,_,_⟩
 ·obtain⟨_,_,vs,_,dd⟩:=N4 I.hok e
  exact dd.typeIs
 ·obtain⟨_,_,xs,_,dd⟩:=Ce I.hok e
  exact dd.typeIs
section
variable{X:Cx}{o i e value:Expr}{pos pos' tpos:Pos}{td ty tv:TE}
end
theorem Ed{P:Program}{w:World}{H:Hp}(h:Heap)(hb:sysModules<h.objs.size):Yu P w H (h.push {cls:= .type "dict",data:= .dict #[]}) h.objs.size (.dK []):=
 ⟨Nat.zero_le _,beq_eq_false_iff_ne.mpr (Ne.symm (Nat.ne_of_lt hb)),[],.nil,Heap.DictOf.new h⟩
def Y13:TE:=fun _ H Q=>∀p,H p=none→Q (.ref p) (upd H p (.dK []))
section
variable{X:Cx}{pos:Pos}
theorem Ze2:PE X (.Dict [] [] pos) Y13:=fun pins s σ H Q I h=>
 wpAny_Dict_empty ⟨.ref s.heap.objs.size,_,I.laid (a:=s.heap.objs.size) (o:= .dK []) (t':=s.toks) (fun _ _ q=>Heap.get?_push_of_some _ q) (Nat.le_refl _) (Ed s.heap I.big),rfl,h _ (I.hok.fresh (Nat.le_refl _))⟩
end
def Z78:List (TE×TE)→St→Hp→(List (V×V)→Hp→Prop)→Prop
 | [],_,H,Q=>Q [] H
 |(tk,tv)::r,σ,H,Q=>tk σ H fun x H1=>tv σ H1 fun y H2=>Z78 r σ H2 fun ps H3=>Q ((x,y)::ps) H3
abbrev VV:List (V×V)→List (Value×Value)→Prop:=Paired fun p q=>RelV p.1 q.1∧RelV p.2 q.2
def PPs(X:Cx)(pos:Pos)(keys:List (Option Expr))(values:List Expr)(trs:List (TE×TE)):Prop:=
 ∀(pins:List (Addr×Obj)) (s:Shared) (σ:St) (H:Hp) (Q:List (V×V)→Hp→Prop),Inv X pins σ H s→Z78 trs σ H Q→
  wpAny (model X.prog X.w) X.A (evalPairs (pairTrees keys values X.env pos)) (fun vs s'=>∃ps H',Inv X pins σ H' s'∧VV ps vs∧Q ps H') X.xe s
theorem Zr7{X:Cx}{pos:Pos}:PPs X pos [] [] []:=fun pins s σ H Q I h=>pairTrees_nil_walk ⟨[],H,I,.nil,h⟩
theorem Zb1{X:Cx}{pos:Pos}{k v:Expr}{ks:List (Option Expr)}{vs:List Expr}{tk tv:TE}{trs:List (TE×TE)}(hk:PE X k tk)(hv:PE X v tv)(hr:PPs X pos ks vs trs):
  PPs X pos (some k::ks) (v::vs) ((tk,tv)::trs):=fun pins s σ H Q I h=>
 pairTrees_cons_walk (thn (hk pins s σ H _ I h) fun u s1 ⟨x,H1,I1,rx,q1⟩=>thn (hv pins s1 σ H1 _ I1 q1) fun w2 s2 ⟨y,H2,I2,ry,q2⟩=>
  thn (hr pins s2 σ H2 _ I2 q2) fun ws s3 zz44=>by obtain⟨ps,H3,I3,rel,q3⟩:=zz44;exact⟨(x,y)::ps,H3,I3,.cons ⟨rx,ry⟩ rel,q3⟩)
noncomputable def Pj(kvs more:List (Key×V)):List (Key×V):=more.foldl (fun acc kv=>putK acc kv.1 kv.2) kvs
theorem KV.merge:∀{more:List (Key×V)} {rs:List (Key×Value)} {kvs:List (Key×V)} {vs:List (Key×Value)},KV more rs→KV kvs vs→KV (Pj kvs more) (merged vs rs):=by
 intro more rs kvs vs r
 unfold KV at r
 induction r generalizing kvs vs with
 | nil=>intro q;exact q
 | @cons p q ps qs h t ih=>
  intro r0
  have e:KV (putK kvs p.1 p.2) (stored vs q.1 q.2):=by
   have:=r0.put p.1 h.2
   rw[←h.1];exact this
  exact ih e
theorem T2:∀(more kvs:List (Key×V)),(Pj kvs more).length≤kvs.length+more.length
 | [],kvs=>by show kvs.length≤kvs.length+0;omega
 | p::r,kvs=>by
  have h1:=T2 r (putK kvs p.1 p.2)
  have h2:=Wc kvs p.1 p.2
  show(Pj (putK kvs p.1 p.2) r).length≤_
  rw[List.length_cons];omega
theorem Qy{P:Program}{w:World}:∀{kvs:List (Key×V)} {ws:List (Value×Value)},VV (kvs.map fun kv=>(kV kv.1,kv.2)) ws→∃rs,Carries (Y6 P w) ws rs∧KV kvs rs
 | [],_,r=>by rw[List.map_nil] at r;cases r;exact⟨[],True.intro,.nil⟩
 | p::kvs,_,r=>by
  rw[List.map_cons] at r
  cases r with
  | @cons a b as bs h t=>
   obtain⟨rs,c,q⟩:=Qy (P:=P) (w:=w) t
   obtain⟨b1,b2⟩:=b
   exact⟨(p.1,b2)::rs,⟨J2 h.1,rfl,c⟩,.cons ⟨rfl,h.2⟩ q⟩
def Y83(trs:List (TE×TE)):TE:=fun σ H Q=>∀p,H p=none→Z78 trs σ (upd H p (.dK [])) fun ps H2=>H2 p=some (.dK [])∧∃kvs:List (Key×V),ps=kvs.map (fun kv=>(kV kv.1,kv.2))∧kvs.length≤15∧Q (.ref p) (upd H2 p (.dK (Pj [] kvs)))
theorem Zs4{X:Cx}{pos:Pos}{keys:List (Option Expr)}{values:List Expr}{trs:List (TE×TE)}(h:PPs X pos keys values trs)(hall:keys.all (·.isSome)=true)(hl:keys.length=values.length)(h0:keys≠[])
  (h15:keys.length≤15):PE X (.Dict keys values pos) (Y83 trs):=by
 intro pins s σ H Q I q
 have hn:=I.hok.fresh (Nat.le_refl s.heap.objs.size)
 have I1:=I.laid (a:=s.heap.objs.size) (o:= .dK []) (h':=s.heap.push {cls:= .type "dict",data:= .dict #[]}) (t':=s.toks) (fun _ _ q=>Heap.get?_push_of_some _ q) (Nat.le_refl _) (Ed s.heap I.big)
 refine wpAny_Dict_walk (knd:=Y6 X.prog X.w) hall hl h0 h15 (thn (h pins _ σ _ _ I1 (q _ hn)) fun ws s2 zz45=>?_)
 obtain⟨ps,H2,I2,rel,e,kvs,ep,lk,q2⟩:=zz45
 subst ep
 obtain⟨rs,c,rk⟩:=Qy (P:=X.prog) (w:=X.w) rel
 obtain⟨z,hd,vs0,r0,dd⟩:=Bd I2.hok e
 cases r0
 refine⟨rs,c,dd,fun h' dd' hs=>⟨.ref s.heap.objs.size,_,?_,rfl,q2⟩⟩
 have hz:(Pj [] kvs).length≤sizeLine:=by
  have h1:=T2 kvs []
  rw[List.length_nil] at h1
  rw[sizeLine_eq];omega
 have he:∃q,h'.get? s.heap.objs.size=some q:=by obtain⟨q,_,_,hq,_⟩:=dd';exact⟨q,hq⟩
 exact G6 I2 (by rw[e];exact True.intro) hs he (El hz hd (rk.merge .nil) dd')
structure M1(X:Cx)(o:Expr)(m:Str)(apos:Pos)(e:Expr)(cpos:Pos):Prop where
 base:attributeBase o m X.env (eval o X.env)=eval o X.env
 few:((backTo cpos (starEach [e] X.env)).all (fun x=> !x.1)&&(backToKw cpos (keywordEach [] X.env)).all (fun x=>x.1.isSome)
  &&decide (([e]:List Expr).length+([]:List Keyword).length+(if ([]:List Keyword).isEmpty then 0 else 1)<30))=true
 line:(apos.endLine==cpos.line)=true
 trees:backTo cpos (starEach [e] X.env)=[(false,eval e X.env)]
structure M2(X:Cx)(o:Expr)(m:Str)(apos:Pos)(e f:Expr)(cpos:Pos):Prop where
 base:attributeBase o m X.env (eval o X.env)=eval o X.env
 few:((backTo cpos (starEach [e,f] X.env)).all (fun x=> !x.1)&&(backToKw cpos (keywordEach [] X.env)).all (fun x=>x.1.isSome)
  &&decide (([e,f]:List Expr).length+([]:List Keyword).length+(if ([]:List Keyword).isEmpty then 0 else 1)<30))=true
 line:(apos.endLine==cpos.line)=true
 trees:backTo cpos (starEach [e,f] X.env)=[(false,eval e X.env),(false,eval f X.env)]
section
variable{X:Cx}{pins:List (Addr×Obj)}{σ:St}{H:Hp}{s:Shared}{a:Addr}{y d:V}{u r:Value}{o:Option V}{A:Around}{E:Value→Shared→Prop}
theorem Zz9{Q:Value→Shared→Prop}(hu:A.units+1<cLine)(I:Inv X pins σ H s)(g:DGet H a y o)(ry:RelV y u)(rd:RelV d r)(h:∀w' s',Inv X pins σ H s'→RelV (o.getD d) w'→Q w' s'):
  wpAny (model X.prog X.w) A (call (.builtin "dict.get") [.ref a,u,r]) Q E s:=by
 rcases g with⟨kvs,k,e,ey,l⟩ | ⟨kvs,k,b,e,ey,eb,l⟩
 ·subst ey
  obtain⟨z,hd,vs,rel,dd⟩:=N4 I.hok e
  refine call_meetsIn PySem.F.slot_dict_get dd.typeIs PySem.F.entry_dict_get (PySem.F.args_dict_get_3 _ _ _) (meets_dict_get_default (Y6 X.prog X.w) a (J2 ry) hd r) ⟨_,dd.mapOf,h _ _ (I.tok _) ?_⟩
  rw[l]
  exact(rel.val k).getD rd
 ·subst ey
  cases (show u=Value.ref b from ry)
  obtain⟨z,hd,xs,rel,dd⟩:=Ce I.hok e
  refine call_meetsIn PySem.F.slot_dict_get dd.typeIs PySem.F.entry_dict_get (PySem.F.args_dict_get_3 _ _ _) (meetsH_dict_get_default (tupleKind (Y6 X.prog X.w)) a b hd r) ⟨tupleKind_room_in1 hu,k,xs,Py I.hok eb,dd,h _ _ (I.tok _) ?_⟩
  rw[l]
  exact(rel.val k).getD rd
end
section
variable{X:Cx}{o e f:Expr}{apos cpos:Pos}{td ty tx:TE}
end
section
variable{X:Cx}{pins:List (Addr×Obj)}{σ:St}{H:Hp}{s:Shared}{a:Addr}{kvs:List (Key×V)}{A:Around}{E:Value→Shared→Prop}
theorem Zf3{Q:Value→Shared→Prop}(I:Inv X pins σ H s)(e:Rd H a (.dK kvs))(h:∀p s',H p=none→Inv X pins σ (upd H p (.dK kvs)) s'→Q (.ref p) s'):wpAny (model X.prog X.w) A (call (.type "dict") [.ref a]) Q E s:=by
 obtain⟨z,hd,vs,rel,dd⟩:=N4 I.hok e
 refine kt_call_dict hd dd (by rw[←rel.length];exact z) fun h' dd' hs=>?_
 refine h _ _ (I.hok.fresh (Nat.le_refl _)) (I.laid (a:=s.heap.objs.size) (o:= .dK kvs) (t':=s.toks) (fun b q hq=>?_) (Nat.le_refl _) (El z (beq_eq_false_iff_ne.mpr (Ne.symm (Nat.ne_of_lt I.big))) rel dd'))
 exact(hs.2 b (Nat.ne_of_lt (Heap.lt_size hq))).trans (Heap.get?_push_of_some _ hq)
end
section
variable{X:Cx}{pins:List (Addr×Obj)}{σ:St}{H:Hp}{s:Shared}{a:Addr}{y:V}{u:Value}{A:Around}{E:Value→Shared→Prop}
end
end L2
namespace Att
open PySem PySem.W PySem.Calls PyProof.Rows
theorem Rl{P:Params}{h:Heap}:∀(ns:List Int) (vs:List Value),WellAll P h vs (ns.map WData.int)→IntsAre vs ns:=by
 intro ns
 induction ns with
 | nil=>
  intro vs w
  rw[List.map_nil] at w
  cases w
  exact .nil
 | cons n ns ih=>
  intro vs w
  rw[List.map_cons] at w
  cases w with
  | cons a b=>
   cases a
   exact .cons _ _ (ih _ b)
theorem script_of{l:OpenLaw}{n:Nat}(hn:l.most=some n){P:Params}{h:Heap}{args:List WData}{vals:List Value}
  (hpre:l.row.toRowW.claim.pre args=true) (hwl:WellAll P h vals args):
  ∃a vs ns,vals=[Value.ref a]∧args=[WData.list (ns.map WData.int)]∧h.get? a=some {cls:= .type "list",data:= .seq vs.toArray}∧IntsAre vs ns∧ns.length≤n:=by
 have hsh:WShape.hasAll [] args [.list .int]=true:=(pre_splitW hpre).1
 have hc:l.pre.holds [] {args:=args}=true:=(pre_splitW hpre).2
 obtain⟨d,r,rfl,h1,h2⟩:=hasAllW_cons hsh
 obtain rfl:=hasAllW_nil h2
 obtain⟨xs,rfl,h3⟩:=hasW_list h1
 obtain⟨ns,rfl⟩:=items_int h3
 have hlen:ns.length≤n:=by
  unfold OpenLaw.pre at hc
  have h4:(WTm.not (.lt (.lit (.int (n:Int))) (.len (.arg 0)))).holds [] {args:=[.list (ns.map .int)]}=true:=by
   have h4:=(holds_andW hc).1
   rw[hn] at h4
   exact h4
  have h5:=condW_of h4 (w_not (w_lt w_lit (w_len_list (w_arg rfl))))
  rw[List.length_map] at h5
  refine Nat.le_of_not_lt fun q=>?_
  have q':(n:Int)< ((ns.length:Nat):Int):=by omega
  first
   |(rw[decide_eq_true q'] at h5;exact absurd h5 (by decide))
   |(simp at h5;omega)
 cases hwl with
 | cons w1 w2=>
  cases w2
  cases w1 with
  | list ho hall=>exact⟨_,_,ns,rfl,rfl,ho,Rl ns _ hall,hlen⟩
theorem post_true(l:OpenLaw)(args:List WData):l.row.toRowW.claim.post args (.bool true) args=true:=
 postW_of (r:=l.row.toRowW) (X:=(true==true))
  (show WShape.has [] (.bool true) .bool=true by first | rfl | decide | simp[WShape.has,WShape.arms,WShape.armsAll])
  (show(WTm.eq .res (.lit (.bool true))).value [] {args:=args,res:=some (.bool true),after:=args}=some (.bool (true==true)) from w_eq_bool (w_res rfl) w_lit) rfl
section
variable{prog:Program}{w:World}{A:Around}{E:Value→Shared→Prop}{s:Shared}{K:Frag}
end
end Att
namespace L2
open PySem PySem.Spec PyProof.Rows
theorem Jb:∀{vs:List Value} {ns:List Int},IntsAre vs ns→Vals (ns.map V.int) vs
 | _,_,.nil=> .nil
 | _,_,.cons n t h=> .cons ⟨t,rfl⟩ (Jb h)
def Only(H:Hp):Prop:=∀b,H b=none∨∃o xs,H b=some (.frz o (.lst xs))
theorem Zc9{P:Program}{w:World}{K:PySem.W.Frag}{mg mb:Str→Option Value}{CX:CXT}{k:Nat}{fa a:Addr}{fd:FuncData}{x:Str}{sp:Sp}{s₁:Shared}{vs:List Value}{ns:List Int}
  (KX:K.In s₁.heap) (hns:s₁.heap.Ns mainGlobals mg) (hb:s₁.heap.Ns builtinsNs mb) (hbb:∀x:Str,x≠"__name__"→mb x=bootBuiltins x) (hlim:s₁.heap.NoLimit) (hg:s₁.gens=#[])
  (ha:s₁.heap.get? a=some {cls:= .type "list",data:= .seq vs.toArray}) (hi:IntsAre vs ns) (hl:ns.length≤sizeLine) (hr:Room k callerA)
  (F:∀base:Heap,K.In base→base.Ns mainGlobals mg→FnOk P w K mg base CX k fa fd [x] sp) (hbind:∀(s:Shared) (u:Value),BindsTo s fd ⟨[u],[]⟩ [(x,u)])
  (hsp:∀H:Hp,Only H→SqL K H a (ns.map V.int)→sp [.ref a] H (fun v _=>v= .bl true) fun _ _ _=>False)
  (hCX:∀H e s',CX [] H s₁ (fun _ _ _=>False) e s'→False):
  codeAny (model P w) callerA (.call (.ref fa) ⟨[.ref a],[]⟩) (fun r s'=>r= .ok (.ret (.bool true))∧OldK s₁.heap s'.heap∧s'.os=s₁.os∧AllBare s'.gens) s₁:=by
 have rv:=Jb hi
 have lenV:=hi.length
 have core:∀H:Hp,Only H→SqL K H a (ns.map V.int)→HOk P w H s₁.heap→(∀b,H b≠none→b=a)→(H a≠none→K.lookup a=none)→
   codeAny (model P w) callerA (.call (.ref fa) ⟨[.ref a],[]⟩) (fun r s'=>r= .ok (.ret (.bool true))∧OldK s₁.heap s'.heap∧s'.os=s₁.os∧AllBare s'.gens) s₁:=by
  intro H hO hS hok hA hK
  have base_of:∀{b:Addr} {o:Obj},s₁.heap.get? b=some o→H b=none→(hidT s₁.heap H).get? b=some o:=fun e n=>Zk1 e n
  have noA:∀{b:Addr} {o:Obj} {es:Array DictEntry} {ep:Nat},s₁.heap.get? b=some o→o.data= .dict es ep→H b=none:=fun{b o es ep} e d=>by
   cases q:H b with
   | none=>rfl
   | some u=>
    have e':b=a:=hA b (by rw[q];simp)
    subst e'
    rw[ha] at e;cases e
    have d':Data.seq vs.toArray _=Data.dict es ep:=d
    cases d'
  have nsK:∀{b:Addr} {m:Str→Option Value},s₁.heap.Ns b m→(hidT s₁.heap H).Ns b m:=fun{b m} zz46=>by obtain⟨o,es,ep,e,d,r⟩:=zz46;exact⟨o,es,ep,base_of e (noA e d),d,r⟩
  have hKb:K.In (hidT s₁.heap H):=fun b o e=>base_of (KX b o e) (by
   cases q:H b with
   | none=>rfl
   | some u=>
    have e':b=a:=hA b (by rw[q];simp)
    subst e'
    rw[hK (by rw[q];simp)] at e;cases e)
  have hM:Mod K mg (hidT s₁.heap H):=⟨hKb,nsK hns,⟨mb,nsK hb,hbb⟩,let ⟨mc,h1,h2⟩:=hlim;⟨mc,nsK h1,h2⟩⟩
  have e0:Env0 P w K mg (hidT s₁.heap H) callerA [] s₁ H:=⟨rfl,hM,fun b o e=>Zo6 e,Nat.le_of_eq (Z53 _ _),trivial,fun b hb=>absurd (show b∈([]:List Addr) from hb) (by simp),hok,.of_eq hg⟩
  refine codeAny_mono ((F _ hKb (nsK hns)).run callerA [] s₁ H ⟨[.ref a],[]⟩ [.ref a] [.ref a] _ _ hr e0 (hbind s₁ (.ref a)) (.cons rfl .nil) (hsp H hO hS)) fun r s' h=>?_
  cases r with
  | error e=>exact(hCX H e s' h).elim
  | ok fl=>
   cases fl with
   | next=>exact False.elim h
   | brk=>exact False.elim h
   | cont=>exact False.elim h
   | ret u=>
    obtain⟨v,H',os,bare,un,hok',r',q⟩:=h
    have q':v= .bl true:=q
    subst q'
    obtain rfl:u=Value.bool true:=r'
    refine⟨rfl,OldK.of_keep fun b o e=>?_,os,bare⟩
    cases q:H b with
    | none=>exact un.keep b o e q (by intro z;exact absurd (show b∈([]:List Addr) from z) (by simp)) (by simp)
    | some u=>
     rcases hO b with z | ⟨ob,xs,z⟩
     ·rw[q] at z;cases z
     ·have z2:=un.frzs b ob _ z
      obtain⟨e1,_⟩:=hok b _ z
      obtain⟨e2,_⟩:=hok' b _ z2
      rw[e] at e1;cases e1
      exact e2
 cases hk:K.lookup a with
 | some o=>
  have e:=KX a o hk
  rw[ha] at e
  cases e
  refine core (fun _=>none) (fun _=> .inl rfl) (.inr ⟨_,vs.toArray,_,hk,rfl,rfl,rfl,by rw[List.size_toArray,lenV];exact hl,by simpa using rv⟩) (fun b u z=>by have z':(none:Option HO)=some u:=z;cases z') (fun b z=>absurd rfl z) fun z=>absurd rfl z
 | none=>
  refine core (fun b=>if b=a then some (.frz {cls:= .type "list",data:= .seq vs.toArray} (.lst (ns.map V.int))) else none) (fun b=>?_) (.inl (.inr ⟨{cls:= .type "list",data:= .seq vs.toArray},if_pos rfl⟩)) (fun b u z=>?_) (fun b z=>?_) fun _=>hk
  ·by_cases hb:b=a
   ·exact .inr ⟨_,_,if_pos hb⟩
   ·exact .inl (if_neg hb)
  ·by_cases hb:b=a
   ·have z':=(if_pos hb).symm.trans z
    cases z'
    subst hb
    exact⟨ha,by rw[List.length_map];exact hl,vs,_,rv,ha⟩
   ·have z':=(if_neg hb).symm.trans z
    cases z'
  ·by_cases hb:b=a
   ·exact hb
   ·exact absurd (if_neg hb) z
end L2
/- THE LAST THEOREM (shape;LID,My.* are yours):
  My.Adr:a structure of the addresses that your layer names (classes,functions);My.Txt K t:a structure (Prop) of the equations over K;
  My.txt_mk:{K} {implicit addresses ..} (e1:nsIn K mainGlobals "law"=some (some (.ref f))) (e2:K.lookup f=some ⟨oc,od,.func (fnOf "law" "law" params body scope dV kV doc pm an cdv ct),sl⟩) (e3:codeIn K cdv "law"=true) ..:∃t,My.Txt K t
set_option maxRecDepth 100000 in
set_option maxHeartbeats 0 in
theorem PySem.Challenge.cw_LID_holds : PySem.Challenge.rw_LID.Holds := by
 w_on;o_law;k_head;(case hw=>w_witness2)
 k_fill
 refine L2.walk_of (l:=PySem.Challenge.rw_LID) (n:=63) (k:=40) (x:="script") (CX:=fun w=> ..) (sp:=fun _=>My.sp_law) rfl (by decide) rfl ⟨rfl,by decide,by decide⟩ (fun w h Y=>PySem.W.kIn_of Y) ?F ?S ?C
 case F=>
  intro w mg fa h KX G hmg
  have T:∃t,My.Txt (L2.KOf KX) t:=by
   dsimp only[L2.KOf] -- K must stand as «<heap const>w.params» for k_is
   refine' My.txt_mk ?e1 ?e2 ?e3 ..
   (case e1=>PySem.W.k_is) -- in the order:a name ->its address ->its object ->its parts
   (case e2=>PySem.W.k_is)
   ..
  obtain⟨t,T⟩:=T
  have e0:=hmg.symm.trans (PySem.W.mg_of KX G T.law)
  cases e0 -- fa is the law's own address
  exact⟨_,fun s u=> .of_eq rfl,fun base kb nb=>My.law_fn T kb nb⟩ -- if «.of_eq rfl» comes too early:refine' ⟨_,?b,fun base kb nb=>My.law_fn T kb nb⟩;exact fun s u=> .of_eq rfl
 case S=>exact fun w H a ns hl hO hS=> ..
 case C=>exact ..
(the tactic k_is has no namespace:write k_is) -/
namespace L2
open PySem PySem.Spec PyProof.Rows
noncomputable def Zf(s:Stmt):Arguments:=match s with
 | .FunctionDef _ a _ _ _ _ _ _ _ _=>a
 | _=>{posonlyargs:=[],args:=[],vararg:=none,kwonlyargs:=[],kw_defaults:=[],kwarg:=none,defaults:=[]}
noncomputable def Z4(s:Stmt):List Stmt:=match s with
 | .FunctionDef _ _ b _ _ _ _ _ _ _=>b
 | _=>[]
noncomputable def Z0(s:Stmt):Scope:=match s with
 | .FunctionDef _ _ _ _ _ _ sc _ _ _=>sc
 | _=>{kind:= .function,names:=[],isGenerator:=false,isCoroutine:=false}
noncomputable abbrev CX0:CXT:=fun _ _ _ _ _ _=>False
abbrev E0:XK:=fun _ _ _=>False
structure Fun(K:PySem.W.Frag)(x qual:Str)(st:Stmt)(f:Addr)(fd:FuncData):Prop where
 ex:∃(oc:Value) (od:Option Addr) (dV kV doc pm:Value) (an:Option Addr) (cdv ct:Value) (osl:Array (Option Value)),
  fd=PySem.W.fnOf x qual (Zf st) (Z4 st) (Z0 st) dV kV doc pm an cdv ct∧K.lookup f=some ⟨oc,od,.func fd,osl⟩∧PySem.W.codeIn K cdv qual=true
 kp:PySem.W.keepIn K (.ref f)=true
section
variable{P:Program}{w:World}{K:PySem.W.Frag}{mg:Str→Option Value}{base:Heap}
theorem Fun.ok{x qual:Str}{st:Stmt}{f:Addr}{fd:FuncData}{N ps:List Str}{k:Nat}{sp:Sp}(F:Fun K x qual st f fd)(S:FnScope N ps (Z0 st))(len:∀vs H Q E,sp vs H Q E→vs.length=ps.length)
  (hbody:∀(cdv:Value) (A:Around) (outer:List Env) (s:Shared) (H:Hp) (vs:List V) (Q:VK) (E:XK),Room k (A.deeper (envOfC qual (Z0 st) s.heap.objs.size f cdv))→sp vs H Q E→
   ∃t,PSs (cxOf CX0 P w K mg base N qual (Z0 st) f cdv A outer s H E).nox (Z4 st) t∧t {nx:=fun _ H'=>Q .non H',rt:=Q} (start N vs) H):FnOk P w K mg base CX0 (k+1) f fd ps sp:=by
 obtain⟨oc,od,dV,kV,doc,pm,an,cdv,ct,osl,rfl,lk,hcd⟩:=F.ex
 refine Zs1 lk hcd S len fun A outer s H vs Q E hr hsp=>?_
 obtain⟨t,h,q⟩:=hbody cdv A outer s H vs Q E hr hsp
 exact⟨t,h.nox,q⟩
theorem Y0{x qual:Str}{st:Stmt}{f:Addr}{oc:Value}{od an:Option Addr}{osl:Array (Option Value)}{dV kV doc pm cdv ct:Value}(l:K.lookup f=some ⟨oc,od,.func (PySem.W.fnOf x qual (Zf st) (Z4 st) (Z0 st) dV kV doc pm an cdv ct),osl⟩)
  (c:PySem.W.codeIn K cdv qual=true) (k:PySem.W.keepIn K (.ref f)=true):Fun K x qual st f (PySem.W.fnOf x qual (Zf st) (Z4 st) (Z0 st) dV kV doc pm an cdv ct):=⟨⟨oc,od,dV,kV,doc,pm,an,cdv,ct,osl,rfl,l,c⟩,k⟩
end
section
variable{X:Cx}
end
section
variable{X:Cx}
theorem Z99:Vq X (.builtin "len") (fun xs H Q=>∃a kvs,xs=[V.ref a]∧H a=some (.dK kvs)∧Q (.int kvs.length) H):=by
 intro pins s σ H xs us Q I r h
 obtain⟨a,kvs,rfl,ha,q⟩:=h
 obtain⟨u,rfl,ru⟩:=Nc r
 cases ru
 exact Y57 I (.inl ha) fun t s' I'=>⟨.int kvs.length,H,I',⟨t,rfl⟩,q⟩
end
section
variable{κ:Type}[DecidableEq κ]
end
end L2
namespace L3
open PySem PySem.Spec PyProof.Rows L2
def Bits(n:Nat)(x:Int):Prop:=x.natAbs<2 ^ n
theorem Ph{m n:Nat}(h:m<2 ^ n)(hn:0<n):m.log2<n:=by
 rcases Nat.eq_zero_or_pos m with h0 | h0
 ·rw[h0];exact hn
 ·exact(Nat.log2_lt (Nat.ne_of_gt h0)).mpr h
theorem Pl{n:Nat}{x:Int}(h:Bits n x):Builtin.Int.intBits x≤n:=by
 unfold Builtin.Int.intBits
 split
 ·exact Nat.zero_le _
 ·rename_i h0
  have h1:x≠0:=by simpa using h0
  have h2:x.natAbs≠0:=by omega
  exact(Nat.log2_lt h2).mpr h
theorem Bits.mono{n m:Nat}{x:Int}(h:Bits n x)(k:n≤m):Bits m x:=Nat.lt_of_lt_of_le h (Nat.pow_le_pow_right (by decide) k)
theorem Bits.add{n:Nat}{x y:Int}(hx:Bits n x)(hy:Bits n y):Bits (n+1) (x+y):=by
 unfold Bits at *
 rw[Nat.pow_succ]
 omega
theorem Ze5{n m:Nat}{a b:Int}(ha:Bits n a)(hb:Bits m b)(h:n+m≤134217728):IntMulOk a b:=by
 unfold IntMulOk
 intro z
 have h1:=Pl ha
 have h2:=Pl hb
 rw[Bool.and_eq_true] at z
 have z2:=z.2
 unfold Builtin.Int.intTooBig at z2
 have z3:=of_decide_eq_true z2
 rw[bitsLine_eq] at z3
 omega
section
variable{X:Cx}
def Z82(_ j:Int):Prop:=j≠0∧j.natAbs.log2<9000
theorem Zb9:OpR X (binaryOp .FloorDiv) (rI Z82 fun i j=> .int (i.fdiv j)):=opI fun _ _ _ _ _ _ _ hc q=>floordiv_int hc.1 q (.inl (PyProof.noPylong_of_log2 hc.2))
theorem Zo1:OpR X (binaryOp .Mult) (rI IntMulOk fun i j=> .int (i * j)):=opI fun _ _ _ _ _ _ _ hc q=>mul_int q hc
def rIsB(K:PySem.W.Frag):List V→Hp→VK→Prop:=fun xs H Q=>∃x n t b,xs=[x,.ty n]∧TyOf K H x t∧PySem.W.kitOne K t (.type n)=some b∧Q (.bl b) H
theorem Zi5:Vq X (.builtin "isinstance") (rIsB X.K):=by
 intro pins s σ H xs us Q I r h
 obtain⟨x,n,t,b,rfl,ty,e,q⟩:=h
 obtain⟨u,v,rfl,ru,rv⟩:=J7 r
 obtain rfl:v=Value.type n:=rv
 exact Z13 I ru ty e fun tk=>⟨.bl b,H,I.tok tk,rfl,q⟩
end
mutual
def Rep(K:PySem.W.Frag)(H:Hp):PyData→V→Prop
 | .none,v=>v= .non
 | .bool b,v=>v= .bl b
 | .int i,v=>v= .int i
 | .str x,v=>v= .str x
 | .list ds,v=>∃a xs,v= .ref a∧SqL K H a xs∧W9 K H ds xs
 | .tuple ds,v=>∃a xs,v= .ref a∧SqT K H a xs∧W9 K H ds xs
 | .dict _,_=>False
def W9(K:PySem.W.Frag)(H:Hp):List PyData→List V→Prop
 | [],xs=>xs=[]
 | d::ds,xs=>∃v vs,xs=v::vs∧Rep K H d v∧W9 K H ds vs
end
section
variable{X:Cx}{pins:List (Addr×Obj)}{σ:L2.St}{H:Hp}{s:Shared}
mutual
theorem Rep.reads(I:Inv X pins σ H s):∀(d:PyData) (v:V) (u:Value),Rep X.K H d v→RelV v u→∃as,Reads s.heap u d as
 | .none,v,u,h,r=>by
  unfold Rep at h;subst h
  cases (show u=Value.none from r)
  exact⟨[],.none⟩
 | .bool b,v,u,h,r=>by
  unfold Rep at h;subst h
  cases (show u=Value.bool b from r)
  exact⟨[],.bool b⟩
 | .int i,v,u,h,r=>by
  unfold Rep at h;subst h
  obtain⟨t,rfl⟩:=(show ∃t,u=Value.int i t from r)
  exact⟨[],.int i t⟩
 | .str x,v,u,h,r=>by
  unfold Rep at h;subst h
  obtain⟨t,rfl⟩:=(show ∃t,u=Value.str x t from r)
  exact⟨[],.str x t⟩
 | .list ds,v,u,h,r=>by
  unfold Rep at h
  obtain⟨a,xs,rfl,hq,ha⟩:=h
  cases (show u=Value.ref a from r)
  obtain⟨its,rv,⟨o,n,h1,h2,_,h4⟩,_⟩:=I.list hq
  obtain⟨as,hr⟩:=W9.reads I ds xs its ha rv
  exact⟨_,.list h1 h2 h4 hr⟩
 | .tuple ds,v,u,h,r=>by
  unfold Rep at h
  obtain⟨a,xs,rfl,hq,ha⟩:=h
  cases (show u=Value.ref a from r)
  obtain⟨its,rv,⟨o,h1,h2,n,h4⟩,_⟩:=I.tuple hq
  obtain⟨as,hr⟩:=W9.reads I ds xs its ha rv
  exact⟨_,.tuple h1 h2 h4 hr⟩
 | .dict kvs,v,u,h,r=>by
  unfold Rep at h
  exact h.elim
theorem W9.reads(I:Inv X pins σ H s):∀(ds:List PyData) (xs:List V) (us:List Value),W9 X.K H ds xs→Vals xs us→∃as,ReadsAll s.heap us ds as
 | [],xs,us,h,r=>by
  unfold W9 at h;subst h
  cases r
  exact⟨[],.nil⟩
 | d::ds,xs,us,h,r=>by
  unfold W9 at h
  obtain⟨v,vs,rfl,h1,h2⟩:=h
  cases r with
  | cons r1 r2=>
   obtain⟨as,q1⟩:=Rep.reads I d v _ h1 r1
   obtain⟨bs,q2⟩:=W9.reads I ds vs _ h2 r2
   exact⟨_,.cons q1 q2⟩
end
end
section
variable{X:Cx}
def rEqD(K:PySem.W.Frag)(neg:Bool):R2:=fun x y H Q=>∃da db,Rep K H da x∧Rep K H db y∧da.canLay0=true∧db.canLay0=true∧min da.depth db.depth≤60∧Q (.bl (if neg then !PyData.eqv da db else PyData.eqv da db)) H
theorem Y42(hu:X.A.units+64<cLine):OpR X (compareOp .Eq) (rEqD X.K false):=by
 intro pins s σ H x y v u Q I rx ry h
 obtain⟨da,db,h1,h2,h3,h4,h5,q⟩:=h
 obtain⟨as,q1⟩:=Rep.reads I da x v h1 rx
 obtain⟨bs,q2⟩:=Rep.reads I db y u h2 ry
 exact PySem.SeqAt.compareEq_reads q1 q2 h3 h4 (by omega) ⟨.bl _,H,I,rfl,q⟩
end
end L3
namespace L3
open PySem PySem.W PySem.Calls PyProof.Rows L2
noncomputable def bigN:Nat:=1048576
theorem Q6:∀(ns:List Int) (i:Int),i∈ns→WData.weight (.int i)≤WData.weightAll (ns.map WData.int)
 | [],_,h=>nomatch h
 | n::r,i,h=>by
  rw[List.map_cons]
  have e:WData.weightAll (WData.int n::r.map WData.int)=WData.weight (.int n)+1+WData.weightAll (r.map WData.int):=by simp[WData.weightAll]
  rw[e]
  rcases List.mem_cons.mp h with q | q
  ·subst q;omega
  ·have:=Q6 r i q;omega
theorem Ru{ns:List Int}(h:WData.layableAll [WData.list (ns.map WData.int)]=true):∀i∈ns,Bits bigN i:=by
 intro i hi
 have h1:WData.layable (WData.list (ns.map WData.int))=true:=by simpa[WData.layableAll] using h
 unfold WData.layable at h1
 rw[Bool.and_eq_true] at h1
 have h2:WData.weight (WData.list (ns.map WData.int))≤2 ^ 20:=of_decide_eq_true h1.2
 have h3:WData.weight (WData.list (ns.map WData.int))=WData.weightAll (ns.map WData.int):=by simp[WData.weight]
 have h4:=Q6 ns i hi
 have h5:WData.weight (.int i)=if i==0 then 0 else i.natAbs.log2+1:=by simp[WData.weight]
 unfold Bits bigN
 by_cases h0:i=0
 ·subst h0;exact Nat.two_pow_pos _
 ·have hb:(i==0)=false:=by simpa using h0
  rw[hb] at h5
  have h6:i.natAbs.log2<1048576:=by
   have:(2:Nat) ^ 20=1048576:=by decide
   simp only[Bool.false_eq_true,if_false] at h5
   omega
  exact(Nat.log2_lt (by omega)).mp h6
theorem Jy{l:OpenLaw}{n:Nat}{q:Program}{loose:List Str}{XP:(Str→Option Value)→Heap→Prop}{YP:World→Heap→Prop}{d:DefRec}(hn:l.most=some n)(hdf:d.params.defaults=[])
  (call:∀(w:World) (s₀ s₁:Shared) (mg mb:Str→Option Value) (fa:Addr) (o:Obj) (pm cd doc:Value) (a:Addr) (vs:List Value) (ns:List Int),
   Ground q loose [] XP w s₀ mg mb s₁.heap→YP w s₁.heap→mg d.name=some (.ref fa)→
   s₁.heap.get? a=some {cls:= .type "list",data:= .seq vs.toArray}→IntsAre vs ns→ns.length≤n→(∀i∈ns,Bits bigN i)→s₁.gens=#[]→
   codeAny (model l.prog w) callerA (.call (.ref fa) ⟨[.ref a],[]⟩) (fun r s'=>r= .ok (.ret (.bool true))∧OldK s₁.heap s'.heap∧s'.os=s₁.os∧AllBare s'.gens) s₁):
  WalkO q loose XP YP l.row.toRowW d [] (fun f vs=>PySem.call f vs):=by
 intro w s₀ s₁ mg mb G Y fa o pm cd doc dV kV ho hd hcd hD hmg hg args vals as hpre hlay hrd hwl hlo
 obtain⟨a,vs,ns,rfl,rfl,hobj,hints,hlen⟩:=Att.script_of hn hpre hwl
 refine enter_call (codeAny_mono (call w s₀ s₁ mg mb fa o pm cd doc a vs ns G Y hmg hobj hints hlen (Ru hlay) hg) fun r s' hq=>?_)
 obtain⟨rfl,h2,h3,h4⟩:=hq
 exact⟨.inl ⟨.bool true,.bool true,[],rfl,fun _=>rfl,.bool true,Att.post_true l _,fun _=>⟨List.Pairwise.nil,fun _ hm=>(nomatch hm)⟩⟩,h2,h3,h4⟩
theorem Y30{l:PySem.W.OpenLaw}{n k:Nat}{q:Program}{loose:List Str}{XP:(Str→Option Value)→Heap→Prop}{YP:World→Heap→Prop}{d:DefRec}{K:Params→PySem.W.Frag}{CX:World→CXT}{sp:World→Sp}{x:Str}
  (hn:l.most=some n) (hn2:n≤sizeLine) (hdf:d.params.defaults=[]) (hr:Room k callerA) (hY:∀(w:World) (h:Heap),YP w h→(K w.params).In h)
  (F:∀(w:World) (mg:Str→Option Value) (fa:Addr) (h:Heap),(K w.params).In h→h.Ns mainGlobals mg→mg d.name=some (.ref fa)→
   ∃fd:FuncData,(∀(s:Shared) (u:Value),BindsTo s fd ⟨[u],[]⟩ [(x,u)])∧∀base:Heap,(K w.params).In base→base.Ns mainGlobals mg→FnOk l.prog w (K w.params) mg base (CX w) k fa fd [x] (sp w))
  (hsp:∀(w:World) (H:Hp) (a:Addr) (ns:List Int),ns.length≤n→(∀i∈ns,Bits bigN i)→Only H→SqL (K w.params) H a (ns.map V.int)→sp w [.ref a] H (fun v _=>v= .bl true) fun _ _ _=>False)
  (hCX:∀(w:World) (H:Hp) (s:Shared) (e:Value) (s':Shared),CX w [] H s (fun _ _ _=>False) e s'→False):
  PySem.W.WalkO q loose XP YP l.row.toRowW d [] (fun f vs=>PySem.call f vs):=by
 refine Jy hn hdf fun w s₀ s₁ mg mb fa o pm cd doc a vs ns G Y hmg hobj hints hlen hbits hg=>?_
 have KX:=hY w _ Y
 obtain⟨fd,hb,hF⟩:=F w mg fa _ KX G.T.g hmg
 exact Zc9 KX G.T.g G.T.b G.T.builtins G.T.nolimit hg hobj hints (Nat.le_trans hlen hn2) hr hF hb (fun H hO hS=>hsp w H a ns hlen hbits hO hS) fun H e s'=>hCX w H s₁ e s'
end L3
namespace L3
open PySem
section
variable{P:Program}{w:World}{A:Around}{R:Result→Shared→Prop}{s:Shared}{elt tg iter c:Expr}{scope:Scope}{pos:Pos}{it acc:Value}{env:Env}
abbrev noE:Value→Shared→Prop:=fun _ _=>False
theorem B0(I:Nat→Shared→Prop)
  (turn:∀n s,I n s→wpAny (model P w) A (pyNext it) (fun r s1=>match r with
   | none=>R (.ok .next) s1
   | some v=>wpAny (model P w) A (letOwnedTupleGo tg it v) (fun _ s2=>wpAny (model P w) A (assign tg env v) (fun _ s3=>wpAny (model P w) A (eval elt env) (fun x s4=>
     wpAny (model P w) A (call (.builtin "list.append") [acc,x]) (fun _ s5=>∃m,m<n∧I m s5) noE s4) noE s3) noE s2) noE s1) noE s)
  (n:Nat) (h:I n s):codeAny (model P w) A (.compLoop (.ListComp elt [⟨tg,iter,[],0⟩] scope pos) 0 it acc env) R s:=by
 refine codeAny_loop rfl I (fun m z hI=>?_) n h
 show wpAny _ A ((compTurn (.ListComp elt [⟨tg,iter,[],0⟩] scope pos) 0 it acc env).onRaise fun x=>do noteFrame x env;theTreesLotGoes x) _ _ z
 refine wpAny_noted ?_
 rw[compTurn_list1]
 refine wpAny_bind (wpAny_standAt (wpAny_bind (wpAny_mono (turn m z hI) (fun r s1 h1=>?_) fun _ _ f=>f.elim)))
 cases r with
 | none=>exact wpAny_pure h1
 | some v=>
  refine wpAny_bind (wpAny_mono h1 (fun _ s2 h2=>?_) fun _ _ f=>f.elim)
  refine wpAny_bind (wpAny_mono h2 (fun _ s3 h3=>?_) fun _ _ f=>f.elim)
  refine wpAny_bind (wpAny_bind (wpAny_mono h3 (fun x s4 h4=>?_) fun _ _ f=>f.elim))
  exact wpAny_bind (wpAny_mono h4 (fun _ s5 h5=>wpAny_pure (wpAny_pure ⟨rfl,h5⟩)) fun _ _ f=>f.elim)
theorem Bc(I:Nat→Shared→Prop)
  (turn:∀n s,I n s→wpAny (model P w) A (pyNext it) (fun r s1=>match r with
   | none=>R (.ok .next) s1
   | some v=>wpAny (model P w) A (letOwnedTupleGo tg it v) (fun _ s2=>wpAny (model P w) A (assign tg env v) (fun _ s3=>wpAny (model P w) A (isTrue c env (eval c env)) (fun ok s4=>
     if ok=true then wpAny (model P w) A (eval elt env) (fun x s5=>wpAny (model P w) A (call (.builtin "list.append") [acc,x]) (fun _ s6=>∃m,m<n∧I m s6) noE s5) noE s4
     else ∃m,m<n∧I m s4) noE s3) noE s2) noE s1) noE s)
  (n:Nat) (h:I n s):codeAny (model P w) A (.compLoop (.ListComp elt [⟨tg,iter,[c],0⟩] scope pos) 0 it acc env) R s:=by
 refine codeAny_loop rfl I (fun m z hI=>?_) n h
 show wpAny _ A ((compTurn (.ListComp elt [⟨tg,iter,[c],0⟩] scope pos) 0 it acc env).onRaise fun x=>do noteFrame x env;theTreesLotGoes x) _ _ z
 refine wpAny_noted ?_
 rw[compTurn_list]
 refine wpAny_bind (wpAny_standAt (wpAny_bind (wpAny_mono (turn m z hI) (fun r s1 h1=>?_) fun _ _ f=>f.elim)))
 cases r with
 | none=>exact wpAny_pure h1
 | some v=>
  refine wpAny_bind (wpAny_mono h1 (fun _ s2 h2=>?_) fun _ _ f=>f.elim)
  refine wpAny_bind (wpAny_mono h2 (fun _ s3 h3=>?_) fun _ _ f=>f.elim)
  refine wpAny_bind (wpAny_tests_one (wpAny_mono h3 (fun ok s4 h4=>?_) fun _ _ f=>f.elim))
  cases ok with
  | false=>exact wpAny_pure ⟨rfl,h4⟩
  | true=>
   refine wpAny_bind (wpAny_bind (wpAny_mono h4 (fun x s5 h5=>?_) fun _ _ f=>f.elim))
   exact wpAny_bind (wpAny_mono h5 (fun _ s6 h6=>wpAny_pure (wpAny_pure ⟨rfl,h6⟩)) fun _ _ f=>f.elim)
end
theorem Tn{env:Env}:∀(names:List (Str×NameKind)) (acc:List (Str×Addr)),(∀n,(n,NameKind.free)∈names→∃c,env.cells.lookup n=some c)→
  (∀x c,acc.lookup x=some c→env.cells.lookup x=some c)→
  ∃cl,(forIn names acc fun(x:Str×NameKind) (cs:List (Str×Addr))=>match x with
   |(name,kind)=>if (kind==NameKind.free)=true then do let c ←cellOf env name;pure (ForInStep.yield ((name,c)::cs)) else pure (ForInStep.yield cs):Sem (List (Str×Addr)))=pure cl∧
   (∀x c,cl.lookup x=some c→env.cells.lookup x=some c)∧(∀n,(n,NameKind.free)∈names→∃c,cl.lookup n=some c)∧∀x c,acc.lookup x=some c→∃c',cl.lookup x=some c'
 | [],acc,_,ha=>⟨acc,rfl,ha,(fun _ h=>nomatch h),fun x c e=>⟨c,e⟩⟩
 |(n,k)::r,acc,hn,ha=>by
  by_cases hk:k= .free
  ·subst hk
   obtain⟨c,hc⟩:=hn n List.mem_cons_self
   obtain⟨cl,e,h1,h2,h3⟩:=Tn r ((n,c)::acc) (fun m hm=>hn m (List.mem_cons_of_mem _ hm)) (fun x d hx=>by
    rw[List.lookup_cons] at hx
    cases q:x==n with
    | true=>rw[q] at hx;cases hx;rw[eq_of_beq q];exact hc
    | false=>rw[q] at hx;exact ha x d hx)
   refine⟨cl,?_,h1,fun m hm=>?_,fun x d hx=>?_⟩
   ·rw[List.forIn_cons]
    show(bind (bind (cellOf env n) _) _:Sem _)=_
    unfold cellOf
    rw[hc]
    exact e
   ·rcases List.mem_cons.mp hm with q | q
    ·cases q;exact h3 n c (by simp[List.lookup_cons])
    ·exact h2 m q
   ·cases q:x==n with
    | true=>exact h3 x c (by rw[List.lookup_cons,q])
    | false=>exact h3 x d (by rw[List.lookup_cons,q];exact hx)
  ·have hb:(k==NameKind.free)=false:=by simpa using hk
   obtain⟨cl,e,h1,h2,h3⟩:=Tn r acc (fun m hm=>hn m (List.mem_cons_of_mem _ hm)) ha
   refine⟨cl,?_,h1,fun m hm=>?_,h3⟩
   ·rw[List.forIn_cons]
    show(bind (if (k==NameKind.free)=true then _ else _) _:Sem _)=_
    rw[hb]
    exact e
   ·rcases List.mem_cons.mp hm with q | q
    ·cases q;exact absurd rfl hk
    ·exact h2 m q
theorem Vb{env:Env}{scope:Scope}(hn:∀n,(n,NameKind.free)∈scope.names→∃c,env.cells.lookup n=some c):
  ∃cl,closureFor scope env=pure cl∧(∀x c,cl.lookup x=some c→env.cells.lookup x=some c)∧∀n,(n,NameKind.free)∈scope.names→∃c,cl.lookup n=some c:=by
 obtain⟨cl,e,h1,h2,_⟩:=Tn scope.names [] hn (fun x c h=>by cases h)
 refine⟨cl,?_,h1,h2⟩
 exact(congrArg (fun t:Sem (List (Str×Addr))=>bind t fun z=>pure z) e).trans rfl
end L3
namespace L3
open PySem PySem.Spec PyProof.Rows L2
noncomputable def cxC(X:Cx)(N':List Str)(scope:Scope)(cl:List (Str×Addr))(C:Addr)(fp:List Addr)(pins:List (Addr×Obj))(s:Shared)(H:Hp):Cx where
 prog:=X.prog
 w:=X.w
 K:=X.K
 mg:=X.mg
 base:=X.base
 A:=X.A
 N:=N'
 s₀:=s
 H₀:=H
 env:=compEnvC scope cl C X.env
 outer:=X.stack
 stack:=X.stack
 ex:=fp
 fn:=fun x=>scope.names.any fun y=>y.1==x&&y.2== .cell
 calm:=X.calm
 pn:=X.pn++pins
 xe:=noE
noncomputable def Wn(scope dsc:Scope):Scope:=
 {scope with names:=scope.names.map fun(n,k)=>if (k== .free&&dsc.kind== .function&&dsc.names.lookup n==some .cell) then(n,.cell) else(n,k)}
noncomputable def Tv(js:List (Option Nat))(σ:L2.St):L2.St:=js.map fun o=>o.bind fun j=>(σ[j]?).join
structure CompScope(dsc:Scope)(dN N':List Str)(js:List (Option Nat))(scope:Scope):Prop where
 kind:scope.kind= .function
 nd:(scope.names.map (·.1)).Nodup
 loc:∀y∈scope.names,y.2= .local→scope.names.lookup y.1=some .local
 len:js.length=N'.length
 cap:∀(i:Nat) (x:Str) (j:Nat),N'[i]?=some x→js[i]?=some (some j)→dN[j]?=some x∧(x,NameKind.free)∈scope.names
 free:∀n,(n,NameKind.free)∈scope.names→dsc.names.lookup n=some .cell∨dsc.names.lookup n=some .free
 seen:∀n,(n,NameKind.free)∈scope.names→(Wn scope dsc).names.lookup n=some .cell∨(Wn scope dsc).names.lookup n=some .free
noncomputable def Td(dsc:Scope)(dN N':List Str)(js:List (Option Nat))(scope:Scope):Bool:=
 scope.kind== .function&&decide ((scope.names.map (·.1)).Nodup)&&scope.names.all (fun y=>y.2 != .local || scope.names.lookup y.1==some .local)&&js.length==N'.length&&
 (N'.zip js).all (fun p=>match p.2 with | some j=>dN[j]?==some p.1&&scope.names.contains (p.1,NameKind.free) | none=>true)&&
 scope.names.all (fun y=>y.2 != .free || ((dsc.names.lookup y.1==some .cell || dsc.names.lookup y.1==some .free)&&((Wn scope dsc).names.lookup y.1==some .cell || (Wn scope dsc).names.lookup y.1==some .free)))
theorem CompScope.of{dsc:Scope}{dN N':List Str}{js:List (Option Nat)}{scope:Scope}(h:Td dsc dN N' js scope=true):CompScope dsc dN N' js scope:=by
 unfold Td at h
 simp only[Bool.and_eq_true,List.all_eq_true,beq_iff_eq,bne_iff_ne,Bool.or_eq_true,decide_eq_true_eq] at h
 obtain⟨⟨⟨⟨⟨h1,h2⟩,h3⟩,h4⟩,h5⟩,h6⟩:=h
 refine⟨h1,h2,fun y hy hl=>(h3 y hy).resolve_left fun z=>z hl,h4,fun i x j e1 e2=>?_,fun n hn=>?_,fun n hn=>?_⟩
 ·have hm:(x,some j)∈N'.zip js:=List.mem_of_getElem? (i:=i) (by rw[List.getElem?_zip_eq_some];exact⟨e1,e2⟩)
  have q:=h5 _ hm
  simp only[Bool.and_eq_true,beq_iff_eq,List.contains_iff_mem] at q
  exact q
 ·exact((h6 _ hn).resolve_left fun z=>z rfl).1
 ·exact((h6 _ hn).resolve_left fun z=>z rfl).2
theorem Vs{env:Env}{x:Str}{k:NameKind}:∀{names:List (Str×NameKind)},
  (names.map fun(n,k)=>if (k==NameKind.free&&env.scope.kind== .function&&env.kindOf n==some .cell) then(n,NameKind.cell) else(n,k)).lookup x=some k→(k= .cell∨k= .free)→(x,NameKind.free)∈names∨(x,NameKind.cell)∈names
 | [],h,_=>by simp at h
 |(n,q)::r,h,hk=>by
  rw[List.map_cons] at h
  by_cases hx:x=n
  ·subst hx
   have hq:q= .free∨q= .cell:=by
    by_cases c:(q==NameKind.free&&env.scope.kind== .function&&env.kindOf x==some .cell)=true
    ·rw[Bool.and_eq_true,Bool.and_eq_true] at c
     exact .inl (eq_of_beq c.1.1)
    ·simp only[if_neg c] at h
     rw[List.lookup_cons,beq_self_eq_true] at h
     have e:q=k:=Option.some.inj h
     rcases hk with z | z
     ·exact .inr (e.trans z)
     ·exact .inl (e.trans z)
   rcases hq with rfl | rfl
   ·exact .inl List.mem_cons_self
   ·exact .inr List.mem_cons_self
  ·have hb:(x==n)=false:=by simpa using hx
   have rest:(r.map fun(n,k)=>if (k==NameKind.free&&env.scope.kind== .function&&env.kindOf n==some .cell) then(n,NameKind.cell) else(n,k)).lookup x=some k:=by
    by_cases c:(q==NameKind.free&&env.scope.kind== .function&&env.kindOf n==some .cell)=true
    ·simp only[if_pos c] at h
     rw[List.lookup_cons,hb] at h
     exact h
    ·simp only[if_neg c] at h
     rw[List.lookup_cons,hb] at h
     exact h
   exact(Vs (env:=env) rest hk).imp (List.mem_cons_of_mem _) (List.mem_cons_of_mem _)
structure BlockCells(X:Cx)(scope:Scope)(cl:List (Str×Addr))(sz:Nat)(h1:Heap):Prop where
 each:∀x c,cl.lookup x=some c→X.env.cells.lookup x=some c∨(sz<c∧h1.IsCell c none)
 free:∀n,(n,NameKind.free)∈scope.names→∃c,cl.lookup n=some c∧X.env.cells.lookup n=some c
 own:∀n,(n,NameKind.cell)∈scope.names→∃c,cl.lookup n=some c∧sz<c
 inj:∀x y c,cl.lookup x=some c→cl.lookup y=some c→sz<c→x=y
theorem T6{x:Str}:∀(names:List (Str×NameKind)) (n:Nat) (acc:List (Str×Addr)),(x,NameKind.cell)∉names→(cellsFrom n names acc).lookup x=acc.lookup x
 | [],_,_,_=>rfl
 |(y,k)::r,n,acc,h=>by
  have hr:(x,NameKind.cell)∉r:=fun z=>h (List.mem_cons_of_mem _ z)
  unfold cellsFrom
  split
  ·rename_i hk
   have hxy:(x==y)=false:=by
    rw[beq_eq_false_iff_ne]
    intro e
    apply h
    rw[e,←eq_of_beq hk]
    exact List.mem_cons_self
   rw[T6 r _ _ hr,List.lookup_cons,hxy]
  ·exact T6 r n acc hr
theorem Qc{x:Str}:∀(names:List (Str×NameKind)) (n:Nat) (acc:List (Str×Addr)),(x,NameKind.cell)∈names→∃c,(cellsFrom n names acc).lookup x=some c∧n≤c
 | [],_,_,h=>by cases h
 |(y,k)::r,n,acc,h=>by
  unfold cellsFrom
  by_cases hr:(x,NameKind.cell)∈r
  ·split
   ·obtain⟨c,e,l⟩:=Qc r (n+1) ((y,n)::acc) hr
    exact⟨c,e,by omega⟩
   ·exact Qc r n acc hr
  ·rcases List.mem_cons.mp h with e | e
   ·cases e
    rw[if_pos (by rfl),T6 r _ _ hr,List.lookup_cons,beq_self_eq_true]
    exact⟨n,rfl,Nat.le_refl _⟩
   ·exact absurd e hr
theorem Vr:∀(names:List (Str×NameKind)) (n:Nat) (acc cl:List (Str×Addr)),∃own,cellsFrom n names (acc++cl)=own++cl∧cellsFrom n names acc=own
 | [],n,acc,cl=>⟨acc,rfl,rfl⟩
 |(y,k)::r,n,acc,cl=>by
  unfold cellsFrom
  split
  ·exact Vr r (n+1) ((y,n)::acc) cl
  ·exact Vr r n acc cl
theorem V8{x:Str}{c:Addr}:∀{a b:List (Str×Addr)},(a++b).lookup x=some c→a.lookup x=some c∨b.lookup x=some c
 | [],b,h=> .inr h
 |(y,d)::a,b,h=>by
  rw[List.cons_append,List.lookup_cons] at h
  rw[List.lookup_cons]
  cases e:x==y with
  | true=>rw[e] at h;exact .inl h
  | false=>rw[e] at h;exact V8 h
theorem Pm{X:Cx}{pins:List (Addr×Obj)}{σ:L2.St}{H:Hp}{s:Shared}{scope:Scope}{cl:List (Str×Addr)}(nd:(scope.names.map (·.1)).Nodup)(I:Inv X pins σ H s)(o:Obj)
  (c1:∀x c,cl.lookup x=some c→X.env.cells.lookup x=some c) (c2:∀n,(n,NameKind.free)∈scope.names→∃c,cl.lookup n=some c):
  BlockCells X scope (cellsFrom (s.heap.objs.size+1) scope.names cl) s.heap.objs.size (pushCells (s.heap.push o) scope.names):=by
 obtain⟨own,e1,e2⟩:=Vr scope.names (s.heap.objs.size+1) [] cl
 rw[List.nil_append] at e1
 have ok:=cellsFrom_ok scope.names (s.heap.push o) (s.heap.objs.size+1) [] ⟨fun _ _ hm=>(nomatch hm),List.Pairwise.nil⟩ (by rw[Heap.size_push];exact Nat.le_refl _)
 rw[Heap.size_push,e2] at ok
 have old:∀x c,cl.lookup x=some c→c<s.heap.objs.size:=by
  intro x c e
  obtain⟨v,q⟩:=I.cell x c (c1 x c e)
  exact q.lt
 have one:∀{n:Str},(n,NameKind.free)∈scope.names→(n,NameKind.cell)∉scope.names:=by
  intro n h1 h2
  have key:∀(l:List (Str×NameKind)),(l.map (·.1)).Nodup→(n,NameKind.free)∈l→(n,NameKind.cell)∈l→False:=by
   intro l
   induction l with
   | nil=>intro _ h;cases h
   | cons y r ih=>
    intro hn a b
    rw[List.map_cons,List.nodup_cons] at hn
    rcases List.mem_cons.mp a with e1 | a2
    ·rcases List.mem_cons.mp b with e2 | b2
     ·rw[←e1] at e2;cases e2
     ·exact hn.1 (List.mem_map.mpr ⟨_,b2,by rw[←e1]⟩)
    ·rcases List.mem_cons.mp b with e2 | b2
     ·exact hn.1 (List.mem_map.mpr ⟨_,a2,by rw[←e2]⟩)
     ·exact ih hn.2 a2 b2
  exact key _ nd h1 h2
 refine⟨fun x c e=>?_,fun n hn=>?_,fun n hn=>?_,fun x y c hx hy hc=>?_⟩
 ·rw[e1] at e
  rcases V8 e with z | z
  ·obtain⟨a,b⟩:=ok.empty x c (mem_of_lookup z)
   exact .inr ⟨b,a⟩
  ·exact .inl (c1 x c z)
 ·obtain⟨c,hc⟩:=c2 n hn
  refine⟨c,?_,c1 n c hc⟩
  rw[T6 _ _ _ (one hn)]
  exact hc
 ·obtain⟨c,a,b⟩:=Qc scope.names (s.heap.objs.size+1) cl hn
  exact⟨c,a,b⟩
 ·rw[e1] at hx hy
  rcases V8 hx with z | z
  ·rcases V8 hy with z2 | z2
   ·exact name_of_addr ok.apart (mem_of_lookup z) (mem_of_lookup z2)
   ·exact absurd (old y c z2) (Nat.lt_asymm hc)
  ·exact absurd (old x c z) (Nat.lt_asymm hc)
theorem Pe{M:Model}{A:Around}{E:Value→Shared→Prop}{s:Shared}{scope:Scope}{globals:Addr}{cl:List (Str×Addr)}{qual:Str}{o:Env}{Q:Env→Shared→Prop}
  (hQ:Q {scope:=scope,locals:=s.heap.objs.size,globals:=globals,cells:=cellsFrom (s.heap.objs.size+1) scope.names cl,qual:=qual,func:=none,code:=o.code,frame:=o.frame,builtins:=o.builtins} {s with heap:=pushCells (s.heap.push {cls:= .type "dict",data:= .dict #[]}) scope.names}):
  wpAny M A (newFunctionEnv scope globals cl [] qual none .none (some o)) Q E s:=by
 simp only[newFunctionEnv,Option.isSome_some,if_true]
 refine wpAny_bind (wpAny_alloc ?_)
 refine wpAny_bind (wpAny_layCells _ (fun name kind cells=>by cases hkc:kind==NameKind.cell<;>simp[hkc]) _ _ _ _ ?_)
 rw[show({s with heap:=s.heap.push {cls:= .type "dict",data:= .dict #[]}}:Shared).heap.objs.size=s.heap.objs.size+1 from Heap.size_push ..]
 rw[List.forIn_nil]
 exact wpAny_bind (wpAny_pure (wpAny_pure hQ))
section
variable{X:Cx}{elt tg iter c:Expr}{scope:Scope}{pos:Pos}{N':List Str}{js:List (Option Nat)}{wi:TI}{g:TG}{te:TE}{tc:TT}
theorem Qz{N':List Str}{js:List (Option Nat)}{pins:List (Addr×Obj)}{σ:L2.St}{H:Hp}{s:Shared}{cl:List (Str×Addr)}{fp:List Addr}{h1:Heap}{tk:Nat}(S:CompScope X.env.scope X.N N' js scope)(I:Inv X pins σ H s)
  (bc:BlockCells X scope cl s.heap.objs.size h1) (hf:∀b∈fp,FpOk X pins H b) (hlt:∀b∈fp,b<s.heap.objs.size)
  {m:Str→Option Value} (hn:h1.Ns s.heap.objs.size m) (hk:∀b o,s.heap.get? b=some o→h1.get? b=some o):
  Inv (cxC X N' scope cl s.heap.objs.size fp pins s H) [] (Tv js σ) H {s with heap:=h1,toks:=tk}:=by
 have ok:(cxC X N' scope cl s.heap.objs.size fp pins s H).Ok:=by
  refine⟨I.ok.mod,S.kind,I.ok.glob,I.ok.blt,Nat.le_refl _,fun x y c h1 h2=>?_,fun x hx=>?_,fun x c hx e=>?_,I.ok.hd,I.ok.frames,.inl rfl,fun b hb=>⟨Nat.ne_of_lt (hlt b hb),fun x c e=>?_⟩,
   I.bs,Nat.le_trans I.ok.bsz I.sz,fun b o e hb=>?_,fun b hb hx=>?_,I.stack,I.stkFree⟩
  ·rcases bc.each x c h1 with z | z
   ·rcases bc.each y c h2 with z2 | z2
    ·exact I.ok.inj x y c z z2
    ·exact bc.inj x y c h1 h2 z2.1
   ·exact bc.inj x y c h1 h2 z.1
  ·have hx':(relabel scope X.env).names.lookup x=some .cell∨(relabel scope X.env).names.lookup x=some .free:=hx
   have hm:(x,NameKind.free)∈scope.names∨(x,NameKind.cell)∈scope.names:=by
    rcases hx' with z | z
    ·exact Vs z (.inl rfl)
    ·exact Vs z (.inr rfl)
   rcases hm with z | z
   ·obtain⟨c,e,_⟩:=bc.free x z;exact⟨c,e⟩
   ·obtain⟨c,e,_⟩:=bc.own x z;exact⟨c,e⟩
  ·have hx':(scope.names.any fun y=>y.1==x&&y.2==NameKind.cell)=true:=hx
   rw[List.any_eq_true] at hx'
   obtain⟨⟨y,k⟩,hm,hy⟩:=hx'
   rw[Bool.and_eq_true] at hy
   have e1:y=x:=eq_of_beq hy.1
   have e2:k= .cell:=eq_of_beq hy.2
   subst e1 e2
   obtain⟨c',e',l⟩:=bc.own _ hm
   have:c'=c:=Option.some.inj (e'.symm.trans e)
   subst this
   exact Nat.le_of_lt l
  ·rcases bc.each x c e with z | z
   ·exact(hf b hb).2.2.2.2.1 x c z
   ·exact fun q=>absurd z.1 (Nat.lt_asymm (by rw[q];exact hlt b hb))
  ·obtain⟨_,_,_,f3,_⟩:=hf b hb
   rcases f3 with z | z
   ·exact I.ok.noex b o e z
   ·exact absurd (Nat.lt_of_lt_of_le (Heap.lt_size e) (Nat.le_trans I.ok.bsz z)) (Nat.lt_irrefl _)
  ·obtain⟨_,f1,f2,_⟩:=hf b hb
   rcases List.mem_cons.mp (I.stkSub b hx) with z | z
   ·exact f1 z
   ·exact f2 z
 refine⟨ok,rfl,I.bare,Un.kept hk,⟨m,hn,fun i x v e1 e2 e3=>?_⟩,fun x c e=>?_,I.hok.fresh (Nat.le_refl _),fun x c e=>(bc.each x c e).elim (fun z=>I.freeC x c z) (fun z=>I.hok.fresh (Nat.le_of_lt z.1)),fun p hp=>?_,I.hok.kept hk,?_⟩
 ·have e2':(Tv js σ)[i]?=some (some v):=e2
  unfold Tv at e2'
  rw[List.getElem?_map] at e2'
  cases q:js[i]? with
  | none=>rw[q] at e2';cases e2'
  | some o=>
   rw[q] at e2'
   cases o with
   | none=>cases e2'
   | some j=>
    have e4:(σ[j]?).join=some v:=Option.some.inj e2'
    obtain⟨hN,hm⟩:=S.cap i x j e1 q
    have hσ:σ[j]?=some (some v):=by
     cases z:σ[j]? with
     | none=>rw[z] at e4;cases e4
     | some o=>rw[z] at e4;exact congrArg some e4
    obtain⟨m0,hn0,hl⟩:=I.loc
    obtain⟨c,hc,hc0⟩:=bc.free x hm
    have hv:Vis X.env.scope x:=(S.free x hm).elim (fun z=> .inr (.inl z)) fun z=> .inr (.inr z)
    obtain⟨u,r,l⟩:=hl j x v hN hσ hv
    refine⟨u,r,.inr ⟨?_,c,hc,?_⟩⟩
    ·exact S.seen x hm
    ·rcases l with⟨kl,_⟩ | ⟨_,c',hc',cell⟩
     ·rcases S.free x hm with y | y<;>(have z:=y.symm.trans (show X.env.scope.names.lookup x=some .local from kl);cases z)
     ·rw[hc0] at hc'
      cases hc'
      obtain⟨o,ho,hd⟩:=cell
      exact⟨o,hk _ _ ho,hd⟩
 ·rcases bc.each x c e with z | z
  ·obtain⟨v,o,ho,hd⟩:=I.cell x c z
   exact⟨v,o,hk _ _ ho,hd⟩
  ·exact⟨none,z.2⟩
 ·have hp':p∈X.pn++pins:=(List.mem_append.mp hp).elim (fun z=>z) fun z=>absurd z (by simp)
  obtain⟨e,n,ne,nf,d⟩:=I.pin p hp'
  refine⟨hk _ _ e,n,Nat.ne_of_lt (Heap.lt_size e),fun z=>?_,d⟩
  rcases List.mem_cons.mp (I.stkSub p.1 z) with y | y
  ·exact ne y
  ·exact nf y
 ·show(Tv js σ).length=N'.length
  unfold Tv
  rw[List.length_map];exact S.len
end
section
variable{X:Cx}{elt tg iter c:Expr}{scope:Scope}{pos:Pos}{N':List Str}{js:List (Option Nat)}{wi:TI}{g:TG}{te:TE}{tc:TT}
def Z49(js:List (Option Nat))(wi:TI)(g:TG)(te:TE):TE:=fun σ H Q=>wi σ H fun J H1=>∀D,H1 D=none→∃W:Nat→Nat→L2.St→Hp→Prop,(∃m,W 0 m (Tv js σ) (upd H1 D (.lst [])))∧
 ∀i m σc Hc,W i m σc Hc→(J.stop i Hc∧Q (.ref D) Hc)∨(J.go i Hc∧∀x H',J.yld i Hc x H'→g x σc H' fun σ2 H2=>te σ2 H2 fun y H4=>∃acc,H4 D=some (.lst acc)∧acc.length<sizeLine∧
  ∃m',m'<m∧W (i+1) m' σ2 (upd H4 D (.lst (acc++[y]))))
def Zn1(js:List (Option Nat))(wi:TI)(g:TG)(tc:TT)(te:TE):TE:=fun σ H Q=>wi σ H fun J H1=>∀D,H1 D=none→∃W:Nat→Nat→L2.St→Hp→Prop,(∃m,W 0 m (Tv js σ) (upd H1 D (.lst [])))∧
 ∀i m σc Hc,W i m σc Hc→(J.stop i Hc∧Q (.ref D) Hc)∨(J.go i Hc∧∀x H',J.yld i Hc x H'→g x σc H' fun σ2 H2=>tc σ2 H2 fun b H3=>if b=true then te σ2 H3 fun y H4=>∃acc,H4 D=some (.lst acc)∧acc.length<sizeLine∧
  ∃m',m'<m∧W (i+1) m' σ2 (upd H4 D (.lst (acc++[y]))) else ∃m',m'<m∧W (i+1) m' σ2 H3)
theorem Qg{pins:List (Addr×Obj)}{σ:L2.St}{H2:Hp}{s2:Shared}{cl:List (Str×Addr)}{it:Addr}{fp:List Addr}{tn:Nat→Heap→Prop}{J:It}{QD:Addr→Hp→Prop}{R:Value→Addr→Result→Shared→Prop}{E:Value→Shared→Prop}
  (hc:X.calm=true) (S:CompScope X.env.scope X.N N' js scope) (c1:∀x c,cl.lookup x=some c→X.env.cells.lookup x=some c) (c2:∀n,(n,NameKind.free)∈scope.names→∃c,cl.lookup n=some c)
  (hg:∀cl C fp pins s H,PG (cxC X N' scope cl C fp pins s H) tg g) (he:∀cl C fp pins s H,PE (cxC X N' scope cl C fp pins s H) elt te)
  (I2:Inv X pins σ H2 s2) (T:Turn X.prog X.w X.K tg J fp it tn) (st2:tn 0 s2.heap) (f2:∀b∈fp,FpOk X pins H2 b)
  (q:∀D,H2 D=none→∃W:Nat→Nat→L2.St→Hp→Prop,(∃m,W 0 m (Tv js σ) (upd H2 D (.lst [])))∧
   ∀i m σc Hc,W i m σc Hc→(J.stop i Hc∧QD D Hc)∨(J.go i Hc∧∀x H',J.yld i Hc x H'→g x σc H' fun σ2 H2=>te σ2 H2 fun y H4=>∃acc,H4 D=some (.lst acc)∧acc.length<sizeLine∧
    ∃m',m'<m∧W (i+1) m' σ2 (upd H4 D (.lst (acc++[y])))))
  (back:∀(D C:Addr) (Hc:Hp) (s4:Shared),(∃m,s4.heap.Ns C m)→Inv X pins σ Hc s4→Hc C=none→C≠X.env.locals→X.s₀.heap.objs.size≤C→(∀x c,X.env.cells.lookup x=some c→c≠C)→(∀p∈X.pn++pins,p.1≠C)→QD D Hc→R (.ref D) C (.ok .next) s4):
  wpAny (model X.prog X.w) X.A (newList []) (fun acc s3=>wpAny (model X.prog X.w) X.A (newFunctionEnv scope X.env.globals cl [] X.env.qual none .none (some X.env)) (fun cenv s4=>
   codeAny (model X.prog X.w) X.A (.compStart (.ListComp elt [⟨tg,iter,[],0⟩] scope pos) 0 (.ref it) acc {cenv with scope:=relabel scope X.env}) (R acc cenv.locals) s4) E s3) E s2:=by
 refine wpAny_newObj_type (Pe ?_)
 dsimp only
 have I3:Inv X pins σ (upd H2 s2.heap.objs.size (.lst [])) {s2 with heap:=s2.heap.push {cls:= .type "list",data:= .seq ([]:List Value).toArray}}:=I2.lnew (its:=[]) (t':=s2.toks) .nil (Nat.zero_le _)
 obtain⟨W,⟨m0,w0⟩,turn⟩:=q s2.heap.objs.size I2.fresh
 have hob:=T.obj 0 _ st2
 have f3:∀b∈fp,FpOk X pins (upd H2 s2.heap.objs.size (.lst [])) b:=fun b hb=>by
  obtain⟨o,e,_⟩:=hob b hb
  exact⟨by rw[Z9 (Nat.ne_of_lt (Heap.lt_size e))];exact(f2 b hb).1,(f2 b hb).2⟩
 generalize hS3:(s2.heap.push {cls:= .type "list",data:= .seq ([]:List Value).toArray}:Heap)=h3 at *
 have k23:∀b o,s2.heap.get? b=some o→h3.get? b=some o:=fun b o e=>by rw[←hS3];exact Heap.get?_push_of_some _ e
 have hlt:∀b∈fp,b<h3.objs.size:=fun b hb=>by
  obtain⟨o,e,_⟩:=hob b hb
  exact Heap.lt_size (k23 b o e)
 have bc:=Pm S.nd I3 {cls:= .type "dict",data:= .dict #[]} c1 c2
 have hns:(pushCells (h3.push {cls:= .type "dict",data:= .dict #[]}) scope.names).Ns h3.objs.size (fun _=>none):=(Heap.Ns.new h3 (.type "dict")).keeps (pushCells_keeps _ _)
 have k31:∀b o,h3.get? b=some o→(pushCells (h3.push {cls:= .type "dict",data:= .dict #[]}) scope.names).get? b=some o:=fun b o e=>pushCells_keeps _ _ b o (Heap.get?_push_of_some _ e)
 dsimp only at bc
 generalize cellsFrom (h3.objs.size+1) scope.names cl=cl' at bc ⊢
 generalize pushCells (h3.push {cls:= .type "dict",data:= .dict #[]}) scope.names=h1 at bc hns k31 ⊢
 have I4:=Qz (tk:=s2.toks) S I3 bc f3 hlt hns k31
 have st4:tn 0 h1:=T.keep 0 _ h1 st2 fun b hb o e=>k31 b o (k23 b o e)
 have nofs:∀b∈fp,b∉(cxC X N' scope cl' h3.objs.size fp pins {s2 with heap:=h3} (upd H2 s2.heap.objs.size (.lst []))).fs:=I4.ok.exfs
 have stat:∀{H':Hp},(∀b∈fp,H' b=none)→∀b∈fp,FpOk (cxC X N' scope cl' h3.objs.size fp pins {s2 with heap:=h3} (upd H2 s2.heap.objs.size (.lst []))) [] H' b:=fun{H'} hn b hb=>
  ⟨hn b hb,Nat.ne_of_lt (hlt b hb),nofs b hb,.inl hb,fun x c e=>(bc.each x c e).elim (fun z=>(f3 b hb).2.2.2.2.1 x c z) (fun z q=>absurd z.1 (Nat.lt_asymm (by rw[q];exact hlt b hb))),fun p hp=>(f3 b hb).2.2.2.2.2 p (by simpa[cxC] using hp)⟩
 have loop:codeAny (model X.prog X.w) X.A (.compLoop (.ListComp elt [⟨tg,iter,[],0⟩] scope pos) 0 (.ref it) (.ref s2.heap.objs.size) (compEnvC scope cl' h3.objs.size X.env))
   (R (.ref s2.heap.objs.size) h3.objs.size) {s2 with heap:=h1,toks:=s2.toks}:=by
  refine B0 (fun n s'=>∃i σc Hc,Inv (cxC X N' scope cl' h3.objs.size fp pins {s2 with heap:=h3} (upd H2 s2.heap.objs.size (.lst []))) [] σc Hc s'∧tn i s'.heap∧(∀b∈fp,Hc b=none)∧W i n σc Hc) ?_ m0
   ⟨0,_,_,I4,st4,fun b hb=>(f3 b hb).1,w0⟩
  rintro n z ⟨i,σc,Hc,Iz,stz,frz,wz⟩
  rcases turn i n σc Hc wz with⟨stop,qd⟩ | ⟨go,step⟩
  ·refine thn (T.done (cxC X N' scope cl' h3.objs.size fp pins {s2 with heap:=h3} (upd H2 s2.heap.objs.size (.lst []))) rfl rfl rfl hc i [] z σc Hc noE Iz (stat frz) stz stop) fun r s4 zz47=>?_
   obtain⟨hr,I5⟩:=zz47
   subst hr
   have J5:Inv X pins σ Hc s4:=I3.call' (s':=s4) I5.os I5.base I5.hok I5.bare fun b hb=>⟨(f3 b hb).2.2.2.1,(f3 b hb).2.1,(f3 b hb).2.2.2.2.1,(f3 b hb).2.2.2.2.2⟩
   obtain⟨m,hm,_⟩:=I5.loc
   refine back _ _ Hc s4 ⟨m,hm⟩ J5 I5.free (Nat.ne_of_gt I3.lt) (Nat.le_trans I3.ok.above (Nat.le_of_lt I3.lt)) (fun x c e z=>?_) (fun p hp z=>?_) qd
   ·obtain⟨v,q⟩:=I3.cell x c e
    exact absurd q.lt (by rw[z];exact Nat.lt_irrefl _)
   ·exact absurd (Heap.lt_size (I3.pin p hp).1) (by rw[z];exact Nat.lt_irrefl _)
  ·refine thn (T.item (cxC X N' scope cl' h3.objs.size fp pins {s2 with heap:=h3} (upd H2 s2.heap.objs.size (.lst []))) rfl rfl rfl hc i [] z σc Hc noE Iz (stat frz) stz go) fun r s4 zz48=>?_
   obtain⟨u,hr,h4⟩:=zz48
   subst hr
   refine thn h4 fun _ s5 zz49=>?_
   obtain⟨x,H5,I5,r5,y5,st5,fr5⟩:=zz49
   have I5':=I5.pinned (stat fr5) (T.obj _ _ st5)
   refine thn (hg _ _ _ _ _ _ _ s5 σc H5 x u _ I5' r5 (step x H5 y5)) fun _ s6 zz50=>?_
   obtain⟨σ6,H6,I6,q6⟩:=zz50
   refine thn (he _ _ _ _ _ _ _ s6 σ6 H6 _ I6 q6) fun v s7 zz51=>?_
   obtain⟨y,H7,I7,r7,acc,hD,hlen,m',hm,w7⟩:=zz51
   refine thn (Q5 _ s7 σ6 H7 (.ref s2.heap.objs.size) [y] (.ref s2.heap.objs.size) [v] (fun _ H8=>H8=upd H7 s2.heap.objs.size (.lst (acc++[y]))) I7 rfl (.cons r7 .nil) ⟨_,acc,y,rfl,rfl,hD,hlen,rfl⟩) fun _ s8 zz52=>?_
   obtain⟨_,H8,I8,_,e8⟩:=zz52
   subst e8
   refine⟨m',hm,i+1,σ6,_,I8.unpinned,T.keep _ _ _ st5 fun b hb o e=>(I8.pin (b,o) (List.mem_append_right _ (List.mem_append_right _ (X3 hb e)))).1,fun b hb=>?_,w7⟩
   obtain⟨o,e,d⟩:=T.obj _ _ st5 b hb
   exact(I8.pin (b,o) (List.mem_append_right _ (List.mem_append_right _ (X3 hb e)))).2.1
 exact codeAny_compStart_list loop (T.self _ 0 _ _ _ st4 loop)
theorem Zh6(hc:X.calm=true)(ho:Td X.env.scope X.N N' js scope=true)(hi:PI X tg iter wi)(hg:∀cl C fp pins s H,PG (cxC X N' scope cl C fp pins s H) tg g)(he:∀cl C fp pins s H,PE (cxC X N' scope cl C fp pins s H) elt te)
  (hs:∀x,foldedSetIterable iter X.env x=pure x:=by intro _;rfl):PE X (.ListComp elt [⟨tg,iter,[],0⟩] scope pos) (Z49 js wi g te):=by
 intro pins s σ H Q I h
 have S:=CompScope.of ho
 obtain⟨cl,hcl,c1,c2⟩:=Vb (scope:=scope) (env:=X.env) fun n hn=>I.ok.has n (S.free n hn)
 rw[eval_ListComp]
 refine wpAny_comprehension_free (use:=none) rfl hs hcl S.kind S.loc (thn (hi pins s σ H _ I h) fun v s1 h1=>thn h1 fun itv s2 h2=>?_)
 obtain⟨it,fp,tn,J,H2,e,I2,T,st2,f2,q2⟩:=h2
 subst e
 refine Qg (QD:=fun D Hc=>Q (.ref D) Hc) (R:=fun acc C=>compPost (model X.prog X.w) X.A X.xe none (EP X pins σ Q) acc C) hc S c1 c2 hg he I2 T st2 f2 q2 ?_
 rintro D C Hc s4 ⟨m,hm⟩ J4 fC nL sC cC pC qd
 refine⟨m,hm,fun h' hs'=>⟨.ref D,Hc,?_,rfl,qd⟩⟩
 exact J4.turned (t':=s4.toks) (fun b o hb e=>(hs'.2 b hb).trans e) fC nL (.inr sC) cC pC
def Y43(i:Nat)(js:List (Option Nat))(wi:TI)(g:TG)(te:TE):TS:=fun D σ H=>Z49 js wi g te σ H fun v H1=>D.nx (σ.set i (some v)) H1
theorem Zb5{i:Nat}{x:Str}{px spos:Pos}(hc:X.calm=true)(ho:Td X.env.scope X.N N' js scope=true)(hN:X.N.Nodup)(hx:X.N[i]?=some x)(hl:X.env.scope.names.lookup x=some .local)(hi:PI X tg iter wi)
  (hg:∀cl C fp pins s H,PG (cxC X N' scope cl C fp pins s H) tg g) (he:∀cl C fp pins s H,PE (cxC X N' scope cl C fp pins s H) elt te)
  (hsw:swapsWith (.ListComp elt [⟨tg,iter,[],0⟩] scope pos) (some (.Name x px)) spos.line X.env=pure true)
  (hs:∀x,foldedSetIterable iter X.env x=pure x:=by intro _;rfl):PS X (.Assign [.Name x px] (.ListComp elt [⟨tg,iter,[],0⟩] scope pos) spos) (Y43 i js wi g te):=by
 intro pins s σ H D I h
 have S:=CompScope.of ho
 obtain⟨cl,hcl,c1,c2⟩:=Vb (scope:=scope) (env:=X.env) fun n hn=>I.ok.has n (S.free n hn)
 rw[exec_Assign_Name_used _ _ _ _ hsw]
 refine wpAny_bind (wpAny_standAt (wpAny_bind ?_))
 show wpAny _ _ (do let _ ←comprehension (.ListComp elt [⟨tg,iter,[],0⟩] scope pos) scope X.env _ (newList []) false (eval iter X.env) (some (assign (.Name x px) X.env))) _ _ s
 refine wpAny_bind (wpAny_mono (wpAny_comprehension_free (use:=some (assign (.Name x px) X.env)) (Q:=fun _ s'=>SP X pins D .next s') rfl hs hcl S.kind S.loc (thn (hi pins s σ H _ I h) fun v s1 h1=>thn h1 fun itv s2 h2=>?_)) (fun _ s' hq=>wpAny_pure (wpAny_pure hq)) fun _ _ e=>e)
 obtain⟨it,fp,tn,J,H2,e,I2,T,st2,f2,q2⟩:=h2
 subst e
 refine Qg (QD:=fun E' Hc=>D.nx (σ.set i (some (.ref E'))) Hc) (R:=fun acc C=>compPost (model X.prog X.w) X.A X.xe (some (assign (.Name x px) X.env)) (fun _ s'=>SP X pins D .next s') acc C) hc S c1 c2 hg he I2 T st2 f2 q2 ?_
 rintro E' C Hc s4 ⟨m,hm⟩ J4 fC nL sC cC pC qd
 show wpAny _ _ (assign (.Name x px) X.env (.ref E')) _ _ s4
 refine wpAny_assign_Name (Q9 J4 hN hx (.inl hl) (v:= .ref E') rfl (fun s5 J5 zz53=>?_) (.inr hl))
 obtain⟨a,sb,ha⟩:=zz53
 have hCa:C≠a:=by
  rcases ha with z | z
  ·rw[z];exact nL
  ·exact(cC x a z).symm
 refine⟨m,hm.sameBut sb hCa,fun h' hs'=>⟨σ.set i (some (.ref E')),Hc,?_,qd⟩⟩
 exact J5.turned (t':=s5.toks) (fun b o hb e=>(hs'.2 b hb).trans e) fC nL (.inr sC) cC pC
theorem Rv{pins:List (Addr×Obj)}{σ:L2.St}{H2:Hp}{s2:Shared}{cl:List (Str×Addr)}{it:Addr}{fp:List Addr}{tn:Nat→Heap→Prop}{J:It}{QD:Addr→Hp→Prop}{R:Value→Addr→Result→Shared→Prop}{E:Value→Shared→Prop}
  (hc:X.calm=true) (S:CompScope X.env.scope X.N N' js scope) (c1:∀x c,cl.lookup x=some c→X.env.cells.lookup x=some c) (c2:∀n,(n,NameKind.free)∈scope.names→∃c,cl.lookup n=some c)
  (hg:∀cl C fp pins s H,PG (cxC X N' scope cl C fp pins s H) tg g) (hq:∀cl C fp pins s H,PT (cxC X N' scope cl C fp pins s H) c tc) (he:∀cl C fp pins s H,PE (cxC X N' scope cl C fp pins s H) elt te)
  (I2:Inv X pins σ H2 s2) (T:Turn X.prog X.w X.K tg J fp it tn) (st2:tn 0 s2.heap) (f2:∀b∈fp,FpOk X pins H2 b)
  (q:∀D,H2 D=none→∃W:Nat→Nat→L2.St→Hp→Prop,(∃m,W 0 m (Tv js σ) (upd H2 D (.lst [])))∧
   ∀i m σc Hc,W i m σc Hc→(J.stop i Hc∧QD D Hc)∨(J.go i Hc∧∀x H',J.yld i Hc x H'→g x σc H' fun σ2 H2=>tc σ2 H2 fun b H3=>if b=true then te σ2 H3 fun y H4=>∃acc,H4 D=some (.lst acc)∧acc.length<sizeLine∧
    ∃m',m'<m∧W (i+1) m' σ2 (upd H4 D (.lst (acc++[y]))) else ∃m',m'<m∧W (i+1) m' σ2 H3))
  (back:∀(D C:Addr) (Hc:Hp) (s4:Shared),(∃m,s4.heap.Ns C m)→Inv X pins σ Hc s4→Hc C=none→C≠X.env.locals→X.s₀.heap.objs.size≤C→(∀x c,X.env.cells.lookup x=some c→c≠C)→(∀p∈X.pn++pins,p.1≠C)→QD D Hc→R (.ref D) C (.ok .next) s4):
  wpAny (model X.prog X.w) X.A (newList []) (fun acc s3=>wpAny (model X.prog X.w) X.A (newFunctionEnv scope X.env.globals cl [] X.env.qual none .none (some X.env)) (fun cenv s4=>
   codeAny (model X.prog X.w) X.A (.compStart (.ListComp elt [⟨tg,iter,[c],0⟩] scope pos) 0 (.ref it) acc {cenv with scope:=relabel scope X.env}) (R acc cenv.locals) s4) E s3) E s2:=by
 refine wpAny_newObj_type (Pe ?_)
 dsimp only
 have I3:Inv X pins σ (upd H2 s2.heap.objs.size (.lst [])) {s2 with heap:=s2.heap.push {cls:= .type "list",data:= .seq ([]:List Value).toArray}}:=I2.lnew (its:=[]) (t':=s2.toks) .nil (Nat.zero_le _)
 obtain⟨W,⟨m0,w0⟩,turn⟩:=q s2.heap.objs.size I2.fresh
 have hob:=T.obj 0 _ st2
 have f3:∀b∈fp,FpOk X pins (upd H2 s2.heap.objs.size (.lst [])) b:=fun b hb=>by
  obtain⟨o,e,_⟩:=hob b hb
  exact⟨by rw[Z9 (Nat.ne_of_lt (Heap.lt_size e))];exact(f2 b hb).1,(f2 b hb).2⟩
 generalize hS3:(s2.heap.push {cls:= .type "list",data:= .seq ([]:List Value).toArray}:Heap)=h3 at *
 have k23:∀b o,s2.heap.get? b=some o→h3.get? b=some o:=fun b o e=>by rw[←hS3];exact Heap.get?_push_of_some _ e
 have hlt:∀b∈fp,b<h3.objs.size:=fun b hb=>by
  obtain⟨o,e,_⟩:=hob b hb
  exact Heap.lt_size (k23 b o e)
 have bc:=Pm S.nd I3 {cls:= .type "dict",data:= .dict #[]} c1 c2
 have hns:(pushCells (h3.push {cls:= .type "dict",data:= .dict #[]}) scope.names).Ns h3.objs.size (fun _=>none):=(Heap.Ns.new h3 (.type "dict")).keeps (pushCells_keeps _ _)
 have k31:∀b o,h3.get? b=some o→(pushCells (h3.push {cls:= .type "dict",data:= .dict #[]}) scope.names).get? b=some o:=fun b o e=>pushCells_keeps _ _ b o (Heap.get?_push_of_some _ e)
 dsimp only at bc
 generalize cellsFrom (h3.objs.size+1) scope.names cl=cl' at bc ⊢
 generalize pushCells (h3.push {cls:= .type "dict",data:= .dict #[]}) scope.names=h1 at bc hns k31 ⊢
 have I4:=Qz (tk:=s2.toks) S I3 bc f3 hlt hns k31
 have st4:tn 0 h1:=T.keep 0 _ h1 st2 fun b hb o e=>k31 b o (k23 b o e)
 have nofs:∀b∈fp,b∉(cxC X N' scope cl' h3.objs.size fp pins {s2 with heap:=h3} (upd H2 s2.heap.objs.size (.lst []))).fs:=I4.ok.exfs
 have stat:∀{H':Hp},(∀b∈fp,H' b=none)→∀b∈fp,FpOk (cxC X N' scope cl' h3.objs.size fp pins {s2 with heap:=h3} (upd H2 s2.heap.objs.size (.lst []))) [] H' b:=fun{H'} hn b hb=>
  ⟨hn b hb,Nat.ne_of_lt (hlt b hb),nofs b hb,.inl hb,fun x c e=>(bc.each x c e).elim (fun z=>(f3 b hb).2.2.2.2.1 x c z) (fun z q=>absurd z.1 (Nat.lt_asymm (by rw[q];exact hlt b hb))),fun p hp=>(f3 b hb).2.2.2.2.2 p (by simpa[cxC] using hp)⟩
 have loop:codeAny (model X.prog X.w) X.A (.compLoop (.ListComp elt [⟨tg,iter,[c],0⟩] scope pos) 0 (.ref it) (.ref s2.heap.objs.size) (compEnvC scope cl' h3.objs.size X.env))
   (R (.ref s2.heap.objs.size) h3.objs.size) {s2 with heap:=h1,toks:=s2.toks}:=by
  refine Bc (fun n s'=>∃i σc Hc,Inv (cxC X N' scope cl' h3.objs.size fp pins {s2 with heap:=h3} (upd H2 s2.heap.objs.size (.lst []))) [] σc Hc s'∧tn i s'.heap∧(∀b∈fp,Hc b=none)∧W i n σc Hc) ?_ m0
   ⟨0,_,_,I4,st4,fun b hb=>(f3 b hb).1,w0⟩
  rintro n z ⟨i,σc,Hc,Iz,stz,frz,wz⟩
  rcases turn i n σc Hc wz with⟨stop,qd⟩ | ⟨go,step⟩
  ·refine thn (T.done (cxC X N' scope cl' h3.objs.size fp pins {s2 with heap:=h3} (upd H2 s2.heap.objs.size (.lst []))) rfl rfl rfl hc i [] z σc Hc noE Iz (stat frz) stz stop) fun r s4 zz54=>?_
   obtain⟨hr,I5⟩:=zz54
   subst hr
   have J5:Inv X pins σ Hc s4:=I3.call' (s':=s4) I5.os I5.base I5.hok I5.bare fun b hb=>⟨(f3 b hb).2.2.2.1,(f3 b hb).2.1,(f3 b hb).2.2.2.2.1,(f3 b hb).2.2.2.2.2⟩
   obtain⟨m,hm,_⟩:=I5.loc
   refine back _ _ Hc s4 ⟨m,hm⟩ J5 I5.free (Nat.ne_of_gt I3.lt) (Nat.le_trans I3.ok.above (Nat.le_of_lt I3.lt)) (fun x c e z=>?_) (fun p hp z=>?_) qd
   ·obtain⟨v,q⟩:=I3.cell x c e
    exact absurd q.lt (by rw[z];exact Nat.lt_irrefl _)
   ·exact absurd (Heap.lt_size (I3.pin p hp).1) (by rw[z];exact Nat.lt_irrefl _)
  ·refine thn (T.item (cxC X N' scope cl' h3.objs.size fp pins {s2 with heap:=h3} (upd H2 s2.heap.objs.size (.lst []))) rfl rfl rfl hc i [] z σc Hc noE Iz (stat frz) stz go) fun r s4 zz55=>?_
   obtain⟨u,hr,h4⟩:=zz55
   subst hr
   refine thn h4 fun _ s5 zz56=>?_
   obtain⟨x,H5,I5,r5,y5,st5,fr5⟩:=zz56
   have I5':=I5.pinned (stat fr5) (T.obj _ _ st5)
   refine thn (hg _ _ _ _ _ _ _ s5 σc H5 x u _ I5' r5 (step x H5 y5)) fun _ s6 zz57=>?_
   obtain⟨σ6,H6,I6,q6⟩:=zz57
   refine thn (hq _ _ _ _ _ _ _ s6 σ6 H6 _ I6 q6) fun ok s6' zz58=>?_
   obtain⟨H6',I6',q6'⟩:=zz58
   cases ok with
   | false=>
    rw[if_neg Bool.false_ne_true] at q6' ⊢
    obtain⟨m',hm,w7⟩:=q6'
    refine⟨m',hm,i+1,σ6,_,I6'.unpinned,T.keep _ _ _ st5 fun b hb o e=>(I6'.pin (b,o) (List.mem_append_right _ (List.mem_append_right _ (X3 hb e)))).1,fun b hb=>?_,w7⟩
    obtain⟨o,e,d⟩:=T.obj _ _ st5 b hb
    exact(I6'.pin (b,o) (List.mem_append_right _ (List.mem_append_right _ (X3 hb e)))).2.1
   | true=>
   rw[if_pos rfl] at q6' ⊢
   refine thn (he _ _ _ _ _ _ _ s6' σ6 H6' _ I6' q6') fun v s7 zz59=>?_
   obtain⟨y,H7,I7,r7,acc,hD,hlen,m',hm,w7⟩:=zz59
   refine thn (Q5 _ s7 σ6 H7 (.ref s2.heap.objs.size) [y] (.ref s2.heap.objs.size) [v] (fun _ H8=>H8=upd H7 s2.heap.objs.size (.lst (acc++[y]))) I7 rfl (.cons r7 .nil) ⟨_,acc,y,rfl,rfl,hD,hlen,rfl⟩) fun _ s8 zz60=>?_
   obtain⟨_,H8,I8,_,e8⟩:=zz60
   subst e8
   refine⟨m',hm,i+1,σ6,_,I8.unpinned,T.keep _ _ _ st5 fun b hb o e=>(I8.pin (b,o) (List.mem_append_right _ (List.mem_append_right _ (X3 hb e)))).1,fun b hb=>?_,w7⟩
   obtain⟨o,e,d⟩:=T.obj _ _ st5 b hb
   exact(I8.pin (b,o) (List.mem_append_right _ (List.mem_append_right _ (X3 hb e)))).2.1
 exact codeAny_compStart_list loop (T.self _ 0 _ _ _ st4 loop)
theorem Zg6(hc:X.calm=true)(ho:Td X.env.scope X.N N' js scope=true)(hi:PI X tg iter wi)(hg:∀cl C fp pins s H,PG (cxC X N' scope cl C fp pins s H) tg g)(hq:∀cl C fp pins s H,PT (cxC X N' scope cl C fp pins s H) c tc)(he:∀cl C fp pins s H,PE (cxC X N' scope cl C fp pins s H) elt te)
  (hs:∀x,foldedSetIterable iter X.env x=pure x:=by intro _;rfl):PE X (.ListComp elt [⟨tg,iter,[c],0⟩] scope pos) (Zn1 js wi g tc te):=by
 intro pins s σ H Q I h
 have S:=CompScope.of ho
 obtain⟨cl,hcl,c1,c2⟩:=Vb (scope:=scope) (env:=X.env) fun n hn=>I.ok.has n (S.free n hn)
 rw[eval_ListComp]
 refine wpAny_comprehension_free (use:=none) rfl hs hcl S.kind S.loc (thn (hi pins s σ H _ I h) fun v s1 h1=>thn h1 fun itv s2 h2=>?_)
 obtain⟨it,fp,tn,J,H2,e,I2,T,st2,f2,q2⟩:=h2
 subst e
 refine Rv (QD:=fun D Hc=>Q (.ref D) Hc) (R:=fun acc C=>compPost (model X.prog X.w) X.A X.xe none (EP X pins σ Q) acc C) hc S c1 c2 hg hq he I2 T st2 f2 q2 ?_
 rintro D C Hc s4 ⟨m,hm⟩ J4 fC nL sC cC pC qd
 refine⟨m,hm,fun h' hs'=>⟨.ref D,Hc,?_,rfl,qd⟩⟩
 exact J4.turned (t':=s4.toks) (fun b o hb e=>(hs'.2 b hb).trans e) fC nL (.inr sC) cC pC
def Y00(i:Nat)(js:List (Option Nat))(wi:TI)(g:TG)(tc:TT)(te:TE):TS:=fun D σ H=>Zn1 js wi g tc te σ H fun v H1=>D.nx (σ.set i (some v)) H1
theorem Zb8{i:Nat}{x:Str}{px spos:Pos}(hc:X.calm=true)(ho:Td X.env.scope X.N N' js scope=true)(hN:X.N.Nodup)(hx:X.N[i]?=some x)(hl:X.env.scope.names.lookup x=some .local)(hi:PI X tg iter wi)
  (hg:∀cl C fp pins s H,PG (cxC X N' scope cl C fp pins s H) tg g) (hq:∀cl C fp pins s H,PT (cxC X N' scope cl C fp pins s H) c tc) (he:∀cl C fp pins s H,PE (cxC X N' scope cl C fp pins s H) elt te)
  (hsw:swapsWith (.ListComp elt [⟨tg,iter,[c],0⟩] scope pos) (some (.Name x px)) spos.line X.env=pure true)
  (hs:∀x,foldedSetIterable iter X.env x=pure x:=by intro _;rfl):PS X (.Assign [.Name x px] (.ListComp elt [⟨tg,iter,[c],0⟩] scope pos) spos) (Y00 i js wi g tc te):=by
 intro pins s σ H D I h
 have S:=CompScope.of ho
 obtain⟨cl,hcl,c1,c2⟩:=Vb (scope:=scope) (env:=X.env) fun n hn=>I.ok.has n (S.free n hn)
 rw[exec_Assign_Name_used _ _ _ _ hsw]
 refine wpAny_bind (wpAny_standAt (wpAny_bind ?_))
 show wpAny _ _ (do let _ ←comprehension (.ListComp elt [⟨tg,iter,[c],0⟩] scope pos) scope X.env _ (newList []) false (eval iter X.env) (some (assign (.Name x px) X.env))) _ _ s
 refine wpAny_bind (wpAny_mono (wpAny_comprehension_free (use:=some (assign (.Name x px) X.env)) (Q:=fun _ s'=>SP X pins D .next s') rfl hs hcl S.kind S.loc (thn (hi pins s σ H _ I h) fun v s1 h1=>thn h1 fun itv s2 h2=>?_)) (fun _ s' hq=>wpAny_pure (wpAny_pure hq)) fun _ _ e=>e)
 obtain⟨it,fp,tn,J,H2,e,I2,T,st2,f2,q2⟩:=h2
 subst e
 refine Rv (QD:=fun E' Hc=>D.nx (σ.set i (some (.ref E'))) Hc) (R:=fun acc C=>compPost (model X.prog X.w) X.A X.xe (some (assign (.Name x px) X.env)) (fun _ s'=>SP X pins D .next s') acc C) hc S c1 c2 hg hq he I2 T st2 f2 q2 ?_
 rintro E' C Hc s4 ⟨m,hm⟩ J4 fC nL sC cC pC qd
 show wpAny _ _ (assign (.Name x px) X.env (.ref E')) _ _ s4
 refine wpAny_assign_Name (Q9 J4 hN hx (.inl hl) (v:= .ref E') rfl (fun s5 J5 zz61=>?_) (.inr hl))
 obtain⟨a,sb,ha⟩:=zz61
 have hCa:C≠a:=by
  rcases ha with z | z
  ·rw[z];exact nL
  ·exact(cC x a z).symm
 refine⟨m,hm.sameBut sb hCa,fun h' hs'=>⟨σ.set i (some (.ref E')),Hc,?_,qd⟩⟩
 exact J5.turned (t':=s5.toks) (fun b o hb e=>(hs'.2 b hb).trans e) fC nL (.inr sC) cC pC
end
end L3
namespace L3
open PySem
def ExAt(h:Heap)(e:Addr)(cls:Value)(dd:Option Addr)(tb:Value):Prop:=∃oe vs,h.get? e=some oe∧(oe.cls=cls∧oe.dict=dd)∧oe.data= .fields vs∧vs[1]?=some tb
def TbAt(h:Heap)(T:Addr)(fl:Value):Prop:=∃oT ts,h.get? T=some oT∧oT.data= .fields ts∧ts[3]?=some fl
theorem ExAt.at{h h':Heap}{e:Addr}{cls:Value}{dd:Option Addr}{tb:Value}(x:ExAt h e cls dd tb)(k:∀o,h.get? e=some o→h'.get? e=some o):ExAt h' e cls dd tb:=
 let ⟨oe,vs,he,r⟩:=x;⟨oe,vs,k _ he,r⟩
theorem TbAt.at{h h':Heap}{T:Addr}{fl:Value}(x:TbAt h T fl)(k:∀o,h.get? T=some o→h'.get? T=some o):TbAt h' T fl:=
 let ⟨o,ts,he,r⟩:=x;⟨o,ts,k _ he,r⟩
theorem Qo(o:Obj)(f:Array Value→Array Value):(o.mapFields f).dict=o.dict:=by
 obtain⟨c,d,dt,sl⟩:=o;cases dt<;>rfl
structure Flown(fs xs:List Addr)(h h':Heap):Prop where
 keep:∀b o,h.get? b=some o→b∉fs→b∉xs→h'.get? b=some o
 slot:∀b o,h.get? b=some o→b∈fs→b∉xs→∃sl,h'.get? b=some {o with slots:=sl}
 there:∀b o,h.get? b=some o→∃o',h'.get? b=some o'
theorem Flown.trans{fs xs ys:List Addr}{h h1 h2:Heap}(a:Flown fs xs h h1)(b:Flown fs ys h1 h2)(hy:∀z∈ys,z∈xs∨h.get? z=none):Flown fs xs h h2 where
 keep:=fun c o e hf hx=>b.keep c o (a.keep c o e hf hx) hf fun z=>(hy c z).elim hx fun q=>by rw[q] at e;cases e
 slot:=fun c o e hf hx=>by
  obtain⟨sl,e1⟩:=a.slot c o e hf hx
  obtain⟨sl',e2⟩:=b.slot c _ e1 hf fun z=>(hy c z).elim hx fun q=>by rw[q] at e;cases e
  exact⟨sl',e2⟩
 there:=fun c o e=>by obtain⟨o1,e1⟩:=a.there c o e;exact b.there c o1 e1
section
variable{M:Model}{A:Around}{E:Value→Shared→Prop}{s:Shared}{base:Heap}{env:Env}{outer:List Env}{L e:Addr}{cls:Value}{dd:Option Addr}{tb:Value}
noncomputable abbrev frsE(l:List Env):List Addr:=l.filterMap (·.frame)
theorem Zw1(hl:s.heap.FunFrames base (env::outer))(hx:ExAt s.heap e cls dd tb):e∉frsE (env::outer):=fun hm=>by
 obtain⟨oe,vs,he,_,hd,_⟩:=hx
 obtain⟨_,o,ho,hnf⟩:=hl.mem hm
 rw[he] at ho;injection ho with ho;subst ho;exact hnf vs hd
theorem Jd{head:Value}{hadNext:Bool}{Q:Unit→Shared→Prop}(hfr:A.frames=some (env::outer))(hl:s.heap.FunFrames base (env::outer))(hf:env.frame=some L)(hx:ExAt s.heap e cls dd tb)
  (h:∀h' T,s.heap.objs.size≤T→T≠e→ExAt h' e cls dd (.ref T)→TbAt h' T (rawInt L)→Flown (frsE (env::outer)) [e] s.heap h'→Q () {s with heap:=h'}):
  wpAny M A (do let a ←frameOf env;let pl ←entryPlaceOf L hadNext;let b ←EntryCells.newEntry head a .none (rawInt L) .none pl;setField (.ref e) 1 b) Q E s:=by
 have hene:=Zw1 hl hx
 obtain⟨oe,vs,he,⟨hc,hdd⟩,hd,h1⟩:=hx
 have hsz:1<vs.size:=(Array.getElem?_eq_some_iff.mp h1).1
 refine wpAny_bind (wpAny_frameOf_fun hfr hl hf fun h1 hs1=>?_)
 refine wpAny_bind (wpAny_entryPlaceOf fun pl hpl=>?_)
 unfold EntryCells.newEntry newFields
 refine wpAny_bind (wpAny_newObj_type ?_ (hpl.sizeOk5 _ _ _ _ _))
 generalize hob:({cls:= .type "traceback",dict:=none,data:= .fields ([head,.ref L,.none,rawInt L,.none]++(if pl.isEmpty then List.replicate 6 Value.none else pl)).toArray}:Obj)=ob
 have he1:h1.get? e=some oe:=(hs1.2.1 e hene).trans he
 have hne:ob.isFreed=false:=by rw[←hob];rfl
 refine wpAny_setField (Heap.get?_push_of_some ob he1) hd hsz (h _ h1.objs.size ?_ (Nat.ne_of_gt (Heap.lt_size he1)) ?_ ?_ ?_)
 ·exact Nat.le_of_eq hs1.1.symm
 ·have hd3:=Obj.data_mapFields hd (·.setIfInBounds 1 (Value.ref h1.objs.size))
  refine⟨_,_,Heap.get?_update_self _ (Heap.get?_push_of_some ob he1) (Obj.isFreed_of_fields hd3),⟨(Obj.cls_mapFields _ _).trans hc,(Qo _ _).trans hdd⟩,hd3,by simp[hsz]⟩
 ·refine⟨ob,_,(Heap.get?_update_other _ _ (Nat.ne_of_lt (Heap.lt_size he1))).trans (Heap.get?_push_size h1 hne),by rw[←hob],?_⟩
  first | (simp;done) | (rcases hpl with rfl | ⟨_,_,_,_,_,_,_,rfl⟩<;>simp)
 ·have keep:∀b o,b≠e→h1.get? b=some o→((h1.push ob).update e (Obj.mapFields (·.setIfInBounds 1 (Value.ref h1.objs.size)))).get? b=some o:=fun b o hb q=>by
   rw[Heap.get?_update_other _ _ (Ne.symm hb)]
   exact Heap.get?_push_of_some _ q
  refine⟨fun b o q hb hx=>keep b o (by simpa using hx) ((hs1.2.1 b hb).trans q),fun b o q hb hx=>?_,fun b o q=>?_⟩
  ·obtain⟨sl,z⟩:=hs1.2.2 b o q
   exact⟨sl,keep b _ (by simpa using hx) z⟩
  ·obtain⟨sl,z⟩:=hs1.2.2 b o q
   by_cases hb:b=e
   ·subst hb
    exact⟨_,Heap.get?_update_self _ (Heap.get?_push_of_some ob he1) (Obj.isFreed_of_fields (Obj.data_mapFields hd _))⟩
   ·exact⟨_,keep b _ hb z⟩
theorem Cu{Q:Unit→Shared→Prop}(hfr:A.frames=some (env::outer))(hl:s.heap.FunFrames base (env::outer))(hf:env.frame=some L)(hx:ExAt s.heap e cls dd .none)
  (h:∀h' T,s.heap.objs.size≤T→T≠e→ExAt h' e cls dd (.ref T)→TbAt h' T (rawInt L)→Flown (frsE (env::outer)) [e] s.heap h'→Q () {s with heap:=h'}):
  wpAny M A (noteFrame (.ref e) env) Q E s:=by
 obtain⟨oe,vs,he,hc,hd,h1⟩:=id hx
 unfold noteFrame
 simp only[hf]
 refine wpAny_bind (wpAny_field he hd h1 ?_)
 rw[if_neg (by decide)]
 exact Jd hfr hl hf hx h
theorem Ji{T0:Addr}{Q:Unit→Shared→Prop}(hfr:A.frames=some (env::outer))(hl:s.heap.FunFrames base (env::outer))(hf:env.frame=some L)(hx:ExAt s.heap e cls dd (.ref T0))(ht:TbAt s.heap T0 .none)(hne:T0≠e)
  (h:∀h' T,s.heap.objs.size≤T→T≠e→ExAt h' e cls dd (.ref T)→TbAt h' T (rawInt L)→Flown (frsE (env::outer)) [e,T0] s.heap h'→Q () {s with heap:=h'}):
  wpAny M A (noteFrame (.ref e) env) Q E s:=by
 obtain⟨oe,vs,he,hc,hd,h1⟩:=id hx
 obtain⟨oT,ts,hT,hdT,h3⟩:=id ht
 unfold noteFrame
 simp only[hf]
 refine wpAny_bind (wpAny_field he hd h1 ?_)
 rw[if_pos (show(Value.ref T0 !=Value.none)=true from by simp)]
 refine wpAny_bind (wpAny_field hT hdT h3 ?_)
 rw[if_neg (show ¬((Value.none==rawInt L)=true) from by simp[rawInt])]
 refine wpAny_bind (wpAny_setField hT hdT (Array.getElem?_eq_some_iff.mp h3).1 ?_)
 have other:∀b,b≠T0→(s.heap.update T0 (Obj.mapFields (·.setIfInBounds 3 Value.none))).get? b=s.heap.get? b:=fun b hb=>Heap.get?_update_other _ _ (Ne.symm hb)
 have selfT:(s.heap.update T0 (Obj.mapFields (·.setIfInBounds 3 Value.none))).get? T0=some (oT.mapFields (·.setIfInBounds 3 Value.none)):=Heap.get?_update_self _ hT (Obj.isFreed_of_fields (Obj.data_mapFields hdT _))
 have noRec:∀b o,s.heap.get? b=some o→(∀vs,o.data≠ .fields vs)→b≠T0:=fun b o hb hnf q=>by
  rw[q,hT] at hb;injection hb with hb;subst hb;exact hnf ts hdT
 have fl0:Flown (frsE (env::outer)) [e,T0] s.heap (s.heap.update T0 (Obj.mapFields (·.setIfInBounds 3 Value.none))):=by
  refine⟨fun b o q _ hx=>(other b (by simp at hx;exact hx.2)).trans q,fun b o q _ hx=>⟨o.slots,(other b (by simp at hx;exact hx.2)).trans q⟩,fun b o q=>?_⟩
  by_cases hb:b=T0
  ·subst hb;exact⟨_,selfT⟩
  ·exact⟨o,(other b hb).trans q⟩
 refine Jd (s:={s with heap:=s.heap.update T0 (Obj.mapFields (·.setIfInBounds 3 Value.none))}) hfr (hl.of_keeps fun b o hb hnf=>⟨o,(other b (noRec b o hb hnf)).trans hb,rfl⟩) hf
  (hx.at fun o q=>(other e (Ne.symm hne)).trans q) fun h' T z1 z2 z3 z4 z5=>h h' T ?_ z2 z3 z4 (fl0.trans z5 fun z hz=> .inl (by simp at hz;simp[hz]))
 exact Nat.le_trans (Nat.le_of_eq (Heap.size_update ..).symm) z1
theorem Tt{T0:Addr}{fl:Value}{fr:Option Addr}{Q:Unit→Shared→Prop}(hx:ExAt s.heap e cls dd (.ref T0))(ht:TbAt s.heap T0 fl)(hne:T0≠e)
  (h:∀h',ExAt h' e cls dd (.ref T0)→TbAt h' T0 (fr.elim Value.none fun f=>rawInt f)→(∀b o,b≠T0→s.heap.get? b=some o→h'.get? b=some o)→(∀b o,s.heap.get? b=some o→∃o',h'.get? b=some o')→Q () {s with heap:=h'}):
  wpAny M A (setFlight (.ref e) fr) Q E s:=by
 obtain⟨oe,vs,he,hc,hd,h1⟩:=id hx
 obtain⟨oT,ts,hT,hdT,h3⟩:=id ht
 have hsz3:3<ts.size:=(Array.getElem?_eq_some_iff.mp h3).1
 have other:∀b,b≠T0→(s.heap.update T0 (Obj.mapFields (·.setIfInBounds 3 (fr.elim Value.none fun f=>rawInt f)))).get? b=s.heap.get? b:=fun b hb=>Heap.get?_update_other _ _ (Ne.symm hb)
 have selfT:(s.heap.update T0 (Obj.mapFields (·.setIfInBounds 3 (fr.elim Value.none fun f=>rawInt f)))).get? T0=some (oT.mapFields (·.setIfInBounds 3 (fr.elim Value.none fun f=>rawInt f))):=Heap.get?_update_self _ hT (Obj.isFreed_of_fields (Obj.data_mapFields hdT _))
 unfold setFlight
 refine wpAny_bind (wpAny_field he hd h1 ?_)
 rw[if_pos (show(Value.ref T0 !=Value.none)=true from by simp)]
 refine wpAny_setField hT hdT hsz3 (h _ (hx.at fun o q=>(other e (Ne.symm hne)).trans q) ⟨_,_,selfT,Obj.data_mapFields hdT _,by simp[hsz3]⟩ (fun b o hb q=>(other b hb).trans q) fun b o q=>?_)
 by_cases hb:b=T0
 ·subst hb;exact⟨_,selfT⟩
 ·exact⟨o,(other b hb).trans q⟩
end
end L3
namespace L3
open PySem PySem.W
noncomputable abbrev Nq(rest:List Value):Obj:={cls:= .type "tuple",data:= .seq rest.toArray}
noncomputable abbrev Qq(C t:Addr):Obj:={cls:= .ref C,data:= .fields #[.ref t,.none,.none,.none,.bool false,.none]}
section
variable{prog:Program}{w:World}{A:Around}{h:Heap}{g:Array GenState}{d:Drawn}{t:Nat}{os:OsState}
variable{nm q:Str}{C N f:Addr}{bs bm:List Value}{hdct:Bool}{sn:List Str}{sub:List Value}{ab:Bool}{col:Option Bool}{dd:Option Addr}{k0 k1 k2 k3 k5:Option Value}{Bn newId inN:String}{bmN:List Value}
structure ExcCls(h:Heap)(C:Addr)(nm q:Str)(N:Addr)(bs bm:List Value)(hdct:Bool)(sn:List Str)(sub:List Value)(ab:Bool)(col:Option Bool)(dd:Option Addr)(k0 k1 k2 k3 k5:Option Value)(Bn newId:String):Prop where
 obj:h.get? C=some (excClassObj nm q C N bs bm hdct sn sub ab col dd k0 k1 k2 k3 k5 newId)
 hB:(Value.ref C::bm).contains (.type Bn)=true
 hA:(Value.ref C::bm).contains (.type "AttributeError")=false
 hN:(Value.ref C::bm).contains (.type "NameError")=false
 hE:(Value.ref C::bm).contains (.type "BaseException")=true
theorem Z59{M:Model}{E:Value→Shared→Prop}(Fn:ExcBaseFacts Bn newId inN bmN)(x:ExcCls h C nm q N bs bm hdct sn sub ab col dd k0 k1 k2 k3 k5 Bn newId){rest:List Value}{Q:Unit→Shared→Prop}(hq:Q () ⟨h,g,d,t,os⟩):
  wpAny M A (checkBuiltinCall newId ⟨.ref C::rest,[]⟩) Q E ⟨h,g,d,t,os⟩:=by
 have hC:=x.obj
 have hB:=x.hB
 have hstar:=Fn.noStar
 simp only[checkBuiltinCall,Fn.newKind,Fn.newSplit,Fn.newRow]
 repeat (first
  | refine wpAny_loadPart_at hC ?_
  |(refine wpAny_isSubtype_exc hC ?_;rw[hB])
  | refine wpAny_staticBase_exc hC ?_
  | refine wpAny_madeBy_exc hC ?_
  | simp only[bne_self_eq_false,Bool.false_eq_true,if_false]
  | wp_step)
 exact hq
theorem Zv2{R:Result→Shared→Prop}(Fn:ExcBaseFacts Bn newId inN bmN)(x:ExcCls h C nm q N bs bm hdct sn sub ab col dd k0 k1 k2 k3 k5 Bn newId){rest:List Value}
  (hq:R (.ok (.ret (.ref (h.objs.size+1)))) ⟨(h.push (Nq rest)).push (Qq C h.objs.size),g,d,t,os⟩) (hrest:rest.length≤sizeLine):
  codeAny (model prog w) A (.builtin newId ⟨.ref C::rest,[]⟩) R ⟨h,g,d,t,os⟩:=by
 have hends:=Fn.ends
 obtain⟨hC,hcB,hcA,hcN,_⟩:=x
 refine codeAny_builtinAt Fn.entry ?_
 unfold Builtin.«BaseException.__new__»
 refine wpAt_bind ?_
 show wpAt _ _ _ (stack >>=_) _ _ _
 refine wpAt_bind (wpAt_stack fun p below=>wpAt_of_wpAny ?_)
 wp_walk
 refine wpAt_of_wpAny ?_
 rw[Fn.owner]
 repeat (first
  | with_reducible refine wpAny_madeHere_exc Fn.canon hC ?_
  | with_reducible refine wpAny_loadPart_at hC ?_
  |(with_reducible refine wpAny_isSubtype_exc hC ?_;first | rw[hcB] | rw[hcA] | rw[hcN])
  | wp_step)
 show R _ _
 rw[Heap.size_push]
 exact hq
def Zu0(e:Addr)(R:Result→Shared→Prop)(r:Result)(s':Shared):Prop:=match r with
 | .ok (.ret v)=>v= .none∧R (.ok (.ret (.ref e))) s'
 | .ok _=>False
 | .error z=>R (.error z) s'
theorem Zg1{R:Result→Shared→Prop}(Fn:ExcBaseFacts Bn newId inN bmN)(x:ExcCls h C nm q N bs bm hdct sn sub ab col dd k0 k1 k2 k3 k5 Bn newId){rest:List Value}
  (hi:Looks (model prog w) h (typeLookup (.ref C) "__init__") (some (.ref f))) (hb:∀self,Looks (model prog w) h (bindSpecial (.ref f) self) (.ref f,[self]))
  (hq:codeAny (model prog w) (A.under (.builtin "type.__call__" ⟨.ref C::rest,[]⟩)) (.call (.ref f) ⟨.ref (h.objs.size+1)::rest,[]⟩) (Zu0 (h.objs.size+1) R) ⟨(h.push (Nq rest)).push (Qq C h.objs.size),g,d,t,os⟩)
  (hrest:rest.length≤sizeLine):codeAny (model prog w) A (.call (.ref C) ⟨rest,[]⟩) R ⟨h,g,d,t,os⟩:=by
 have hC:=x.obj
 have f1:=tc_lookup
 have f2:=tc_bind (.ref C)
 have hT:(⟨h,g,d,t,os⟩:Shared).TypeIs (.ref C) "type":=⟨_,hC,rfl⟩
 refine codeAny_of_tree ?_
 show wpAny _ _ (callAny (.ref C) _) _ _ _
 repeat (any_goals (first | assumption | with_reducible refine wpAny_loadPart_at hC ?_ | wp_step))
 refine⟨rfl,?_⟩
 refine codeAny_call_builtin_at (Code.quiet_builtin _ (by decide+kernel)) entry_typeCall (wpAny_check_type_call_sub hC ?_)
 repeat (first | with_reducible refine wpAny_loadPart_at hC ?_ | with_reducible refine wpAny_madeBy_exc hC ?_ | wp_step)
 refine codeAny_call_builtin_code (Code.quiet_builtin _ Fn.quiet) (Z59 Fn x ?_)
 refine Zv2 Fn x ?_ hrest
 show wpAny _ _ _ _ _ _
 have k:∀b o,h.get? b=some o→((h.push (Nq rest)).push (Qq C h.objs.size)).get? b=some o:=fun b o e=>Heap.get?_push_of_some _ (Heap.get?_push_of_some _ e)
 have hC1:=k _ _ hC
 have hget:((h.push (Nq rest)).push (Qq C h.objs.size)).get? (h.objs.size+1)=some (Qq C h.objs.size):=by heap_get
 have hcC:(Value.ref C::bm).contains (.ref C)=true:=by simp
 have i1:=hi.keeps k
 have b1:=(hb (.ref (h.objs.size+1))).keeps k
 have t1:Looks (model prog w) ((h.push (Nq rest)).push (Qq C h.objs.size)) (typeOf (.ref (h.objs.size+1))) (.ref C):=(Looks.ld hget).andThen .now
 unfold isInstance
 repeat (first | with_reducible refine wpAny_loadPart_at hget ?_ | (with_reducible refine wpAny_isSubtype_exc hC1 ?_;rw[hcC]) | wp_step)
 show wpAny _ (A.under (.builtin "type.__call__" ⟨.ref C::rest,[]⟩)) (isSubtype (.ref C) (.ref C)) _ _ ⟨(h.push (Nq rest)).push (Qq C h.objs.size),g,d,t,os⟩
 refine wpAny_isSubtype_exc hC1 ?_
 rw[hcC]
 unfold callSpecial? specialOf
 repeat (first | simp only[Bool.not_true,Bool.false_eq_true,if_false] | with_reducible refine wpAny_call ?_ | lk)
 refine codeAny_mono hq fun r s' z=>?_
 rcases r with e | (v | _ | _ | _)<;>first | exact z | exact z.elim | skip
 obtain⟨rfl,z⟩:=z
 exact wpAny_pure (wpAny_pure z)
end
end L3
namespace L3
open PySem PySem.W PySem.Calls PyProof.Rows Builtin Builtin.ObjectAttr
theorem B4(self:Value):refuseLoop self "__setattr__" [.type "ValueError",.type "Exception",.type "BaseException",.type "object"]=pure ():=by
 kernel_rfl
structure ExcSet(K:Frag)(C:Addr)(name:Str):Prop where
 cls:∃cd own,clsIn K C=some cd∧cd.hasDict=true∧cd.mro=own++[.type "ValueError",.type "Exception",.type "BaseException",.type "object"]∧∀v∈own,∃a,v=Value.ref a
 no:findIn K (.ref C) name=some none
 set:findIn K (.ref C) "__setattr__"=some (some (.builtin "object.__setattr__"))
theorem Pz(self:Value):∀own:List Value,(∀v∈own,∃a,v=Value.ref a)→refuseLoop self "__setattr__" (own++[.type "ValueError",.type "Exception",.type "BaseException",.type "object"])=pure ()
 | [],_=>B4 self
 | v::r,h=>by
  obtain⟨a,rfl⟩:=h v List.mem_cons_self
  rw[List.cons_append,refuseLoop_ref]
  exact Pz self r fun u hu=>h u (List.mem_cons_of_mem _ hu)
section
variable{prog:Program}{w:World}{A:Around}{K:Frag}{C e:Addr}{s:Shared}{name:Str}{R:Result→Shared→Prop}
theorem Bx{tk:Tok}{v:Value}{oe:Obj}{vs:Array Value}(X:K.In s.heap)(S:ExcSet K C name)(he:s.heap.get? e=some oe)(hc:oe.cls= .ref C)(hdd:oe.dict=none)(hd:oe.data= .fields vs)
  (h:∀h' tk',h'.get? e=some {oe with dict:=some s.heap.objs.size}→h'.Ns1 s.heap.objs.size (fun x=>if x=name then some v else none)→(∀b o,b≠e→s.heap.get? b=some o→h'.get? b=some o)→R (.ok (.ret .none)) {s with heap:=h',toks:=tk'}):
  codeAny (model prog w) A (.call (.builtin "object.__setattr__") ⟨[.ref e,.str name tk,v],[]⟩) R s:=by
 obtain⟨⟨cd,own,hcd,hhd,hmro,hown⟩,hno,_⟩:=S
 have SF:=PySem.F.store_object
 have ty:Looks (model prog w) s.heap (typeOf (.ref e)) (.ref C):=by rw[←hc];exact(Looks.ld he).andThen .now
 have ne:cd.mro.isEmpty=false:=by rw[hmro];cases own<;>rfl
 have ho:cd.mro.contains (.type "object")=true:=by rw[hmro];simp
 have sub:Looks (model prog w) s.heap (isInstance (.ref e) (.type "object")) true:=ty.andThen (looks_mroIn X (by unfold mroIn;rw[hcd,Option.bind_some,if_neg (by rw[ne];decide),ho]))
 refine codeAny_call_builtin SF.slot.plain SF.entry (@check_slot (model prog w) _ _ s "object.__setattr__" "object" "__setattr__" (.ref e) [.str name tk,v] [] _ SF.kind SF.split sub (SF.args (.ref e) (.str name tk) v) ?_)
 have hm:Looks (model prog w) s.heap (mroOf (.ref C)) cd.mro:=(looks_clsIn X hcd).andThen .now
 rw[osa_eq,refuse_eq]
 refine wpAny_bind (wpAny_bind (ty.here (wpAny_bind (hm.here ?_))))
 rw[hmro,Pz _ own hown]
 refine wpAny_pure (wpAny_bind (ty.here (wpAny_bind ((looks_findIn X hno).here (wpAny_bind (wpAny_pure ?_))))))
 show wpAny _ _ (storeInOwnDict (.ref e) (.ref C) (.str name tk) name v false) _ _ _
 obtain⟨c,dct,dt,sl⟩:=oe
 dsimp only at hc hdd hd
 subst hc hdd hd
 refine wpAny_bind (wpAny_pure (wpAny_bind (wpAny_bind (wpAny_loadPart he (wpAny_bind ((looks_clsIn X hcd).here ?_))))))
 rw[hhd]
 show wpAny _ _ (alloc {cls:=Value.type "dict",data:=Data.dict #[]} >>=fun d=>update e (fun o=>{o with dict:=some d}) >>=fun _=>dictMade (.ref C) e d) _ _ s
 refine wpAny_bind (wpAny_alloc (wpAny_bind (wpAny_update (Heap.get?_push_of_some _ he) ?_)))
 refine wpAny_pure (a:=some s.heap.objs.size) ?_
 refine wpAny_bind (wpAny_pure (wpAny_bind ?_))
 have D:((s.heap.push {cls:=Value.type "dict",data:=Data.dict #[]}).update e fun o=>{o with dict:=some s.heap.objs.size}).get? s.heap.objs.size=some {cls:=Value.type "dict",data:=Data.dict #[]}:=
  (Heap.get?_update_other _ _ (Nat.ne_of_lt (Heap.lt_size he))).trans (Heap.get?_push_size _ rfl)
 have D2:∀f:Obj→Obj,(f {cls:=Value.type "dict",data:=Data.dict #[]}).isFreed=false→(((s.heap.push {cls:=Value.type "dict",data:=Data.dict #[]}).update e fun o=>{o with dict:=some s.heap.objs.size}).update s.heap.objs.size f).get? s.heap.objs.size=
   some (f {cls:=Value.type "dict",data:=Data.dict #[]}):=fun f hf=>Heap.get?_update_self f D hf
 unfold nsSet
 refine wpAny_bind (wpAny_bind (wpAny_askSetting (wpAny_pure (wpAny_bind (wpAny_mkText (wpAny_bind (wpAny_loadPart D ?_)))))))
 dsimp only
 rw[show aRefKeyMayBeTheName name #[]=false from rfl,if_neg Bool.false_ne_true]
 refine wpAny_updatePart D ?_
 refine wpAny_bind (wpAny_lookBehind (D2 _ rfl) ?_ ?_)
 ·exact pastItsLine_dict (by show 1≤_;decide)
 refine wpAny_pure ?_
 refine h _ _ ?_ ?_ ?_
 ·rw[Heap.get?_update_other _ _ (Nat.ne_of_gt (Heap.lt_size he))]
  exact Heap.get?_update_self _ (Heap.get?_push_of_some _ he) rfl
 ·refine⟨_,_,_,D2 _ rfl,rfl,?_,?_,?_⟩
  ·show StrKeys #[(⟨_,.str name _,v⟩:DictEntry)]
   intro x hx
   simp at hx
   subst hx
   exact⟨name,_,rfl⟩
  ·show UniqKeys #[(⟨_,.str name _,v⟩:DictEntry)]
   simp[UniqKeys]
  ·intro n
   show nsFind #[(⟨_,.str name _,v⟩:DictEntry)] n=_
   by_cases hn:n=name
   ·subst hn
    simp[nsFind,findBy,Value.isStr]
   ·have hb:(name==n)=false:=by simpa using Ne.symm hn
    simp[nsFind,findBy,Value.isStr,hb,hn]
 ·intro b o hb q
  rw[Heap.get?_update_other _ _ (Nat.ne_of_gt (Heap.lt_size q)),Heap.get?_update_other _ _ (Ne.symm hb)]
  exact Heap.get?_push_of_some _ q
theorem Gh{v:Value}{oe:Obj}{vs:Array Value}{E:Value→Shared→Prop}{Q:Unit→Shared→Prop}(X:K.In s.heap)(S:ExcSet K C name)(he:s.heap.get? e=some oe)(hc:oe.cls= .ref C)(hdd:oe.dict=none)(hd:oe.data= .fields vs)
  (h:∀h' tk',h'.get? e=some {oe with dict:=some s.heap.objs.size}→h'.Ns1 s.heap.objs.size (fun x=>if x=name then some v else none)→(∀b o,b≠e→s.heap.get? b=some o→h'.get? b=some o)→Q () {s with heap:=h',toks:=tk'}):
  wpAny (model prog w) A (setAttr (.ref e) name v) Q E s:=by
 have J:InstAt s.heap e oe C none:=⟨he,hc,by unfold notCls;rw[hd],by rw[hdd];trivial⟩
 exact set_plain X J S.set (Bx (s:={s with toks:=s.toks+1}) X S he hc hdd hd fun h' tk' a b c=>h h' tk' a b c)
structure ExcGet(K:Frag)(C:Addr)(name:Str):Prop where
 cls:∃cd,clsIn K C=some cd∧cd.hasDict=true
 no:findIn K (.ref C) name=some none
 ga:findIn K (.ref C) "__getattribute__"=some (some (.builtin "BaseException.__getattribute__"))
 gh:findIn K (.ref C) "__getattr__"=some none
 base:mroIn K C (.type "BaseException")=some true
theorem Zr0(self:Value):bindSpecial (.builtin "BaseException.__getattribute__") self=pure (.builtin "BaseException.__getattribute__",[self]):=by kernel_rfl
theorem Zw3:builtinKind "BaseException.__getattribute__"=some .slot:=by decide+kernel
theorem Zi7:splitId "BaseException.__getattribute__"=some ("BaseException","__getattribute__"):=by decide+kernel
theorem Zg7:plainId "BaseException.__getattribute__"=true:=by decide+kernel
theorem Zv1(a b:Value):argsOk "BaseException.__getattribute__" ⟨[a,b],[]⟩:=by unfold argsOk;kernel_rfl
end
end L3
namespace L3
open PySem PySem.Spec PyProof.Rows L2
noncomputable def XO(e:Addr)(cls:Value)(dd:Option Addr):HO:= .ext fun h=>∃oe vs tb,h.get? e=some oe∧(oe.cls=cls∧oe.dict=dd)∧oe.data= .fields vs∧vs[1]?=some tb
theorem XO.ok{P:Program}{w:World}{H:Hp}{h:Heap}{e:Addr}{cls:Value}{dd:Option Addr}{tb:Value}(x:ExAt h e cls dd tb):Yu P w H h e (XO e cls dd):=by
 obtain⟨oe,vs,h1,h2,h3,h4⟩:=x
 exact⟨⟨oe,vs,tb,h1,h2,h3,h4⟩,⟨oe,h1⟩,fun a b zz62 k=>by obtain⟨oe,vs,tb,q1,q2⟩:=zz62;exact⟨oe,vs,tb,k _ q1,q2⟩⟩
theorem XO.at{P:Program}{w:World}{H:Hp}{h:Heap}{e:Addr}{cls:Value}{dd:Option Addr}(x:Yu P w H h e (XO e cls dd)):∃tb,ExAt h e cls dd tb:=by
 obtain⟨⟨oe,vs,tb,q1,q2,q3,q4⟩,_⟩:=x
 exact⟨tb,oe,vs,q1,q2,q3,q4⟩
noncomputable def CX1(P:Program)(w:World):CXT:=fun outer H s E e s'=>∃(ea T:Addr) (cls:Value) (dd:Option Addr) (H':Hp),e= .ref ea∧s'.os=s.os∧AllBare s'.gens∧Un (frs outer) [] H H' s.heap s'.heap∧HOk P w H' s'.heap∧
 (s.heap.objs.size≤ea∧s.heap.objs.size≤T)∧H' ea=some (XO ea cls dd)∧(H' T=none∧T≠ea)∧ExAt s'.heap ea cls dd (.ref T)∧TbAt s'.heap T .none∧E cls dd H'
structure Leaves(X:Cx)(E:XK):Prop where
 stk:X.stack=X.env::X.outer
 fr:X.env.frame=some X.env.locals
 ex:X.ex=[]
 xe:∀e s',wpAny (model X.prog X.w) X.A (leaving X.env e) (fun _ s''=>CX1 X.prog X.w X.outer X.H₀ X.s₀ E e s'') (fun e' s''=>CX1 X.prog X.w X.outer X.H₀ X.s₀ E e' s'') s'→X.xe e s'
theorem Nr{P:Program}{w:World}{K:PySem.W.Frag}{mg:Str→Option Value}{base:Heap}{N:List Str}{qual:Str}{scope:Scope}{f:Addr}{cd:Value}{A:Around}{outer:List Env}{s:Shared}{H:Hp}{E:XK}:
  Leaves (cxOf (CX1 P w) P w K mg base N qual scope f cd A outer s H E) E:=⟨rfl,rfl,rfl,fun _ _ h=>h⟩
theorem Zy9{P:Program}{w:World}{H:Hp}{h:Heap}{a:Addr}{o:HO}(x:Yu P w H h a o):∃u,h.get? a=some u:=by
 cases o with
 | lst xs=>obtain⟨_,_,_,_,e⟩:=x;exact⟨_,e⟩
 | tup xs=>obtain⟨_,_,_,⟨_,e,_⟩⟩:=x;exact⟨_,e⟩
 | dK kvs=>obtain⟨_,_,_,_,o,_,_,e,_⟩:=x;exact⟨_,e⟩
 | dT kvs=>obtain⟨_,_,_,_,o,_,_,e,_⟩:=x;exact⟨_,e⟩
 | set S n=>obtain⟨o,_,_,_,e,_⟩:=x;exact⟨_,e⟩
 | ins C dx fs=>obtain⟨_,_,_,e,_⟩:=x;exact⟨_,e⟩
 | own y=>exact x
 | xd fs=>obtain⟨_,⟨_,_,_,e,_⟩,_⟩:=x;exact⟨_,e⟩
 | rng lo hi=>obtain⟨_,_,_,e⟩:=x;exact⟨_,e⟩
 | frz ob u=>obtain⟨e,_⟩:=x;exact⟨_,e⟩
 | tbl ps=>exact⟨_,x⟩
 | met f y=>exact⟨_,x⟩
 | ext φ=>exact x.2.1
section
variable{X:Cx}{E:XK}{pins:List (Addr×Obj)}{σ:L2.St}{H:Hp}{s:Shared}{e T:Addr}{cls:Value}{dd:Option Addr}{xs:List Addr}{h1:Heap}{fl:Value}
theorem Ju{P:Program}{w:World}{h h':Heap}{tb:Value}(ok:HOk P w H h)(he:H e=some (XO e cls dd))(x:ExAt h' e cls dd tb)(k:∀b u o,H b=some u→b≠e→h.get? b=some o→h'.get? b=some o):HOk P w H h':=fun b u q=>by
 by_cases hb:b=e
 ·subst hb
  rw[he] at q
  cases q
  exact XO.ok x
 ·refine(ok b u q).stay (fun c v hc r=>?_) (fun _ z=>z) fun _ _ z=>z
  rcases hc with z | z
  ·rw[z] at r ⊢;exact k b u v q hb r
  ·refine k c _ v z (fun y=>?_) r
   rw[y,he] at z
   cases z
theorem Pn{M:Model}{A:Around}{E':Value→Shared→Prop}(L:Leaves X E)(I:Inv X pins σ H s)(fresh:∀b∈xs,(H b=none∨b=e)∧X.s₀.heap.objs.size≤b)(he:e∈xs)(hx:H e=some (XO e cls dd))(hTs:s.heap.objs.size≤T)(hTe:T≠e)
  (x1:ExAt h1 e cls dd (.ref T)) (t1:TbAt h1 T fl) (fl1:Flown (frsE X.stack) xs s.heap h1) (hE:E cls dd H):
  wpAny M A (setFlight (.ref e) none) (fun _ s''=>CX1 X.prog X.w X.outer X.H₀ X.s₀ E (.ref e) s'') E' {s with heap:=h1}:=by
 have hT:s.heap.get? T=none:=Heap.get?_none_of_le hTs
 refine Tt (s:={s with heap:=h1}) x1 t1 hTe fun h2 x2 t2 k2 th2=>?_
 have neT:∀b o,s.heap.get? b=some o→b≠T:=fun b o q z=>by rw[z,hT] at q;cases q
 have nst:∀b o,X.s₀.heap.get? b=some o→b∉frs X.outer→b∉frsE X.stack:=fun b o q hb z=>by
  rw[L.stk] at z
  have z':b∈(X.env::X.outer).filterMap (·.frame):=z
  rw[List.filterMap_cons,L.fr] at z'
  rcases List.mem_cons.mp z' with y | y
  ·exact absurd (Heap.lt_size q) (by rw[y];exact Nat.not_lt.mpr I.ok.above)
  ·exact hb y
 have nxs:∀b o,X.s₀.heap.get? b=some o→b∉xs:=fun b o q z=>absurd (Heap.lt_size q) (Nat.not_lt.mpr (fresh b z).2)
 have nex:∀b:Addr,b∉X.ex:=fun b z=>by rw[L.ex] at z;cases z
 have T0:X.s₀.heap.objs.size≤T:=Nat.le_trans I.sz hTs
 refine⟨e,T,cls,dd,H,rfl,I.os,I.bare,⟨fun b o q n hb _=>?_,fun b o q n hb _=>?_,fun b o q n _=>I.base.free b o q n (nex b),fun b o q _=>?_,I.base.tups,I.base.frzs,I.base.tbls⟩,?_,⟨(fresh e he).2,T0⟩,hx,⟨?_,hTe⟩,x2,t2,hE⟩
 ·have q1:=I.base.keep b o q n hb (nex b)
  exact k2 b o (neT b o q1) (fl1.keep b o q1 (nst b o q hb) (nxs b o q))
 ·obtain⟨sl,q1⟩:=I.base.slot b o q n hb (nex b)
  have hst:b∈frsE X.stack:=by
   show b∈X.stack.filterMap (·.frame)
   rw[L.stk,List.filterMap_cons,L.fr]
   exact List.mem_cons_of_mem _ hb
  obtain⟨sl',q2⟩:=fl1.slot b _ q1 hst (nxs b o q)
  exact⟨sl',k2 b _ (neT b _ q1) q2⟩
 ·obtain⟨o1,q1⟩:=I.base.there b o q (nex b)
  obtain⟨o2,q2⟩:=fl1.there b o1 q1
  exact th2 b o2 q2
 ·refine Ju I.hok hx x2 fun b u o q hb r=>k2 b o (neT b o r) (fl1.keep b o r (fun z=>?_) fun z=>?_)
  ·have:=I.stkFree b z
   rw[q] at this;cases this
  ·rcases(fresh b z).1 with y | y
   ·rw[q] at y;cases y
   ·exact hb y
 ·cases q:H T with
  | none=>rfl
  | some u=>
   obtain⟨o,z⟩:=Zy9 (I.hok T u q)
   rw[hT] at z;cases z
theorem Y76(L:Leaves X E):Nn (CX1 X.prog X.w) X E:=by
 rintro pins σ H s e s' I ⟨ea,T,cls,dd,H',eq,os,bare,un,hok,⟨f1,f2⟩,g1,⟨g2,g3⟩,x1,t1,hE⟩
 subst eq
 have J:Inv X pins σ H' s':=I.call' (ch:=[]) os un hok bare fun b z=>absurd z (by simp)
 have s0:∀b,s.heap.objs.size≤b→X.s₀.heap.objs.size≤b:=fun b hb=>Nat.le_trans I.sz hb
 refine L.xe _ _ ?_
 unfold leaving
 refine wpAny_bind (Ji (outer:=X.outer) (base:=X.base) (L:=X.env.locals) (by rw[←L.stk];exact J.ok.frames) (by rw[←L.stk];exact J.stack) L.fr x1 t1 g3 fun h1 T1 z1 z2 z3 z4 z5=>?_)
 refine Pn (xs:=[ea,T]) L J (fun b hb=>?_) (by simp) g1 z1 z2 z3 z4 (by rw[L.stk];exact z5) hE
 rcases List.mem_cons.mp hb with z | z
 ·rw[z];exact⟨.inr rfl,s0 _ f1⟩
 ·rw[List.mem_singleton.mp z];exact⟨.inl g2,s0 _ f2⟩
theorem Zx2(L:Leaves X E)(I:Inv X pins σ H s)(hx:H e=some (XO e cls dd))(hn:ExAt s.heap e cls dd .none)(h0:X.s₀.heap.objs.size≤e)(hE:E cls dd H):X.xe (.ref e) s:=by
 refine L.xe _ _ ?_
 unfold leaving
 refine wpAny_bind (Cu (outer:=X.outer) (base:=X.base) (L:=X.env.locals) (by rw[←L.stk];exact I.ok.frames) (by rw[←L.stk];exact I.stack) L.fr hn fun h1 T1 z1 z2 z3 z4 z5=>?_)
 refine Pn (xs:=[e]) L I (fun b hb=>?_) (by simp) hx z1 z2 z3 z4 (by rw[L.stk];exact z5) hE
 rw[List.mem_singleton.mp hb];exact⟨.inr rfl,h0⟩
noncomputable def XN(e:Addr)(cls:Value)(dd:Option Addr):HO:= .ext fun h=>ExAt h e cls dd .none
theorem XN.ok{P:Program}{w:World}{H:Hp}{h:Heap}{e:Addr}{cls:Value}{dd:Option Addr}(x:ExAt h e cls dd .none):Yu P w H h e (XN e cls dd):=by
 refine⟨x,?_,fun a b y k=>y.at k⟩
 obtain⟨oe,_,h1,_⟩:=x
 exact⟨oe,h1⟩
theorem Zv4{C:Addr}{f:Str}{y:V}{u:Value}{Q:Unit→Shared→Prop}{E':Value→Shared→Prop}{A:Around}(I:Inv X pins σ H s)(he:H e=some (XN e (.ref C) none))(S:ExcSet X.K C f)(ry:RelV y u)
  (h:∀dx s',H dx=none→Inv X pins σ (upd (upd H dx (.xd [(f,y)])) e (XN e (.ref C) (some dx))) s'→Q () s'):wpAny (model X.prog X.w) A (setAttr (.ref e) f u) Q E' s:=by
 obtain⟨oe,vs,h1,⟨h2,h3⟩,h4,h5⟩:=(show ExAt s.heap e (.ref C) none .none from(I.hok e _ he).1)
 have nde:s.heap.objs.size≠e:=Nat.ne_of_gt (Heap.lt_size h1)
 have fr:H s.heap.objs.size=none:=I.hok.fresh (Nat.le_refl _)
 refine Gh I.kIn S h1 h2 h3 h4 fun h' tk' a1 a2 a3=>h s.heap.objs.size _ fr (I.un (t':=tk') ⟨fun b o q n _ _=>?_,fun b o q n _ _=>?_,fun b o q n _=>?_,fun b o q _=>?_,fun b xs q=>?_,fun b o u q=>?_,fun b ps q=>?_⟩ fun b w' q=>?_)
 ·exact a3 b o (fun z=>by rw[z,he] at n;cases n) q
 ·exact⟨o.slots,a3 b o (fun z=>by rw[z,he] at n;cases n) q⟩
 ·rw[Z9 (fun z=>by rw[z,he] at n;cases n),Z9 (Nat.ne_of_lt (Heap.lt_size q))];exact n
 ·by_cases hb:b=e
  ·exact⟨_,by rw[hb];exact a1⟩
  ·exact⟨o,a3 b o hb q⟩
 ·rw[Z9 (fun z=>by rw[z,he] at q;cases q),Z9 (fun z=>by rw[z,fr] at q;cases q)];exact q
 ·rw[Z9 (fun z=>by rw[z,he] at q;cases q),Z9 (fun z=>by rw[z,fr] at q;cases q)];exact q
 ·exact⟨#[],by rw[Z9 (fun z=>by rw[z,he] at q;cases q),Z9 (fun z=>by rw[z,fr] at q;cases q),q];simp⟩
 ·by_cases hb:b=e
  ·subst hb
   rw[Zv] at q
   cases q
   exact XN.ok ⟨_,vs,a1,⟨h2,rfl⟩,h4,h5⟩
  ·rw[Z9 hb] at q
   by_cases hd:b=s.heap.objs.size
   ·subst hd
    rw[Zv] at q
    cases q
    refine⟨_,a2,fun g=>?_⟩
    by_cases hg:g=f
    ·subst hg
     simp only[List.lookup_cons,beq_self_eq_true,if_true]
     exact ry
    ·have hb:(g==f)=false:=by simpa using hg
     simp only[List.lookup_cons,hb,List.lookup_nil,if_neg hg]
     trivial
   ·rw[Z9 hd] at q
    refine(I.hok b w' q).stay (fun c v hc r=>a3 c v ?_ r) (fun c z=>?_) fun c xs z=>?_
    ·intro z
     rcases hc with y | y
     ·exact hb (y.symm.trans z)
     ·rw[z,he] at y;cases y
    ·rw[Z9 (fun y=>by rw[y,he] at z;cases z),Z9 (fun y=>by rw[y,fr] at z;cases z)];exact z
    ·rw[Z9 (fun y=>by rw[y,he] at z;cases z),Z9 (fun y=>by rw[y,fr] at z;cases z)];exact z
end
section
variable{X:Cx}{pos pos':Pos}{o value:Expr}{f:Str}{ta tv:TE}
def sExc(K:PySem.W.Frag)(ta tv:TE)(f:Str):TS:=fun D σ H=>tv σ H fun y H1=>ta σ H1 fun x H2=>∃e C,x= .ref e∧H2 e=some (XN e (.ref C) none)∧ExcSet K C f∧∀dx,H2 dx=none→D.nx σ (upd (upd H2 dx (.xd [(f,y)])) e (XN e (.ref C) (some dx)))
theorem Y01(ha:PE X o ta)(hv:PE X value tv)(hs:swapsWith value (some (.Attribute o f pos')) pos.line X.env=pure false):PS X (.Assign [.Attribute o f pos'] value pos) (sExc X.K ta tv f):=by
 intro pins s σ H D I h
 refine plainObj_wpAny_Assign_Attribute (thn (hv pins s σ H _ I h) fun u s1 ⟨y,H1,I1,ry,q⟩=>thn (ha pins s1 σ H1 _ I1 q) fun ov s2 zz64=>?_) hs
 obtain⟨x,H2,I2,rx,e,C,ex,ee,S,q2⟩:=zz64
 subst ex
 obtain rfl:ov=Value.ref e:=rx
 exact Zv4 I2 ee S ry fun dx s3 hd I3=>⟨σ,_,I3,q2 dx hd⟩
end
structure ExcMk(K:PySem.W.Frag)(C f:Addr):Prop where
 cls:∃nm q N bs bm hdct sn sub ab col dd k0 k1 k2 k3 k5,K.lookup C=some (excClassObj nm q C N bs bm hdct sn sub ab col dd k0 k1 k2 k3 k5 "ValueError.__new__")∧(Value.ref C::bm).contains (.type "ValueError")=true∧
  (Value.ref C::bm).contains (.type "AttributeError")=false∧(Value.ref C::bm).contains (.type "NameError")=false∧(Value.ref C::bm).contains (.type "BaseException")=true
 init:PySem.W.findIn K (.ref C) "__init__"=some (some (.ref f))
 fn:PySem.W.isFn K (.ref f)=true
 kp:PySem.W.keepIn K (.ref C)=true
theorem ExcMk.at{K:PySem.W.Frag}{C f:Addr}(M:ExcMk K C f){h:Heap}(k:K.In h):∃nm q N bs bm hdct sn sub ab col dd k0 k1 k2 k3 k5,ExcCls h C nm q N bs bm hdct sn sub ab col dd k0 k1 k2 k3 k5 "ValueError" "ValueError.__new__":=by
 obtain⟨nm,q,N,bs,bm,hdct,sn,sub,ab,col,dd,k0,k1,k2,k3,k5,h1,h2,h3,h4,h5⟩:=M.cls
 exact⟨nm,q,N,bs,bm,hdct,sn,sub,ab,col,dd,k0,k1,k2,k3,k5,k _ _ h1,h2,h3,h4,h5⟩
section
variable{X:Cx}{k:Nat}{f C:Addr}{fd:FuncData}{ps:List Str}{sp:Sp}{dvs:List V}{ds:List Value}{pins:List (Addr×Obj)}{σ:L2.St}{H:Hp}{s:Shared}{us:List Value}{vs:List V}
theorem Zc1{Q:Addr→Hp→Prop}{E':Value→Shared→Prop}(M:ExcMk X.K C f)(F:FnOk X.prog X.w X.K X.mg X.base CX0 k f fd ps sp)(hr:Room (k+1) X.A)(hb:Zq X.K fd ps ds)(hd:Vals dvs ds)(I:Inv X pins σ H s)(r:Vals vs us)(hz:us.length≤sizeLine)
  (h:∀e,H e=none→sp (.ref e::(vs++dvs)) (upd H e (XN e (.ref C) none)) (fun v H2=>v= .non∧Q e H2) E0):
  wpAny (model X.prog X.w) X.A (call (.ref C) us) (fun u s'=>∃e H',u= .ref e∧Inv X pins σ H' s'∧X.s₀.heap.objs.size≤e∧X.K.In s'.heap∧Q e H') E' s:=by
 obtain⟨nm,q,N,bs,bm,hdct,sn,sub,ab,col,dd,k0,k1,k2,k3,k5,cl⟩:=M.at I.kIn
 have fr:H (s.heap.objs.size+1)=none:=I.hok.fresh (Nat.le_succ _)
 have hq:=h (s.heap.objs.size+1) fr
 have hget:((s.heap.push (Nq us)).push (Qq C s.heap.objs.size)).get? (s.heap.objs.size+1)=some (Qq C s.heap.objs.size):=by heap_get
 have I2:Inv X pins σ (upd H (s.heap.objs.size+1) (XN (s.heap.objs.size+1) (.ref C) none)) {s with heap:=(s.heap.push (Nq us)).push (Qq C s.heap.objs.size)}:=
  I.laid (a:=s.heap.objs.size+1) (t':=s.toks) (fun b u e=>Heap.get?_push_of_some _ (Heap.get?_push_of_some _ e)) (Nat.le_succ _) (XN.ok ⟨_,_,hget,⟨rfl,rfl⟩,rfl,rfl⟩)
 have r2:Vals (V.ref (s.heap.objs.size+1)::(vs++dvs)) (Value.ref (s.heap.objs.size+1)::(us++ds)):= .cons rfl (r.append hd)
 have hl:(Value.ref (s.heap.objs.size+1)::us++ds).length=ps.length:=by
  have e:=r2.length
  rw[F.len _ _ _ _ hq] at e
  exact e.symm
 have s0:X.s₀.heap.objs.size≤s.heap.objs.size+1:=Nat.le_trans I.sz (Nat.le_succ _)
 refine wpAny_call ?_
 have hi:=PySem.W.looks_findIn (M:=model X.prog X.w) I.kIn M.init
 have hbd:=fun self=>PySem.W.bind_fn (M:=model X.prog X.w) I.kIn self (beq_iff_eq.mp M.fn)
 obtain⟨hh,g,d,t,os⟩:=s
 refine Zg1 PySem.F.excBase_ValueError cl hi hbd (codeAny_mono (F.run _ X.stack _ _ ⟨Value.ref (hh.objs.size+1)::us,[]⟩ (Value.ref (hh.objs.size+1)::(us++ds)) _ _ E0 (hr.make C us []) (I2.env0.make C us []) (hb _ (Value.ref (hh.objs.size+1)::us) I2.kIn hl) r2 hq) fun rr s' hq'=>?_) hz
 cases rr with
 | error e=>exact False.elim hq'
 | ok fl=>
  cases fl with
  | ret u=>
   obtain⟨v,H',I3,rv,ev,q3⟩:=I2.after hq'
   subst ev
   exact⟨rv,hh.objs.size+1,H',rfl,I3,s0,I3.kIn,q3⟩
  | next=>exact False.elim hq'
  | brk=>exact False.elim hq'
  | cont=>exact False.elim hq'
theorem Pd{M:Model}{A:Around}{E:Value→Shared→Prop}{env:Env}{s:Shared}{x:Sem Value}{Q:Flow→Shared→Prop}(hh:A.handled=none)
  (h:wpAny M A x (fun v s1=>∃(e:Addr) (nm q:Str) (N:Addr) (bs bm:List Value) (hdct:Bool) (sn:List Str) (sub:List Value) (ab:Bool) (col:Option Bool) (dd:Option Addr) (k0 k1 k2 k3 k5:Option Value) (dx:Option Addr),
   v= .ref e∧ExcCls s1.heap C nm q N bs bm hdct sn sub ab col dd k0 k1 k2 k3 k5 "ValueError" "ValueError.__new__"∧ExAt s1.heap e (.ref C) dx .none∧E (.ref e) s1) E s):
  wpAny M A (raiseStmt env (some x) none) Q E s:=by
 unfold raiseStmt
 refine wpAny_bind (wpAny_mono h (fun v s1 h1=>?_) fun _ _ z=>z)
 obtain⟨e,nm,q,N,bs,bm,hdct,sn,sub,ab,col,dd,k0,k1,k2,k3,k5,dx,rfl,cl,⟨oe,vs,he,⟨hc,hdd⟩,hd,h1⟩,hE⟩:=h1
 obtain⟨hC,_,_,_,hcB⟩:=cl
 obtain⟨hp,g,d,tk,os⟩:=s1
 obtain⟨c,dc,dt,sl⟩:=oe
 dsimp only at hc hdd hd
 subst hc hdd hd
 repeat (first | with_reducible refine wpAny_loadPart_at he ?_ | with_reducible refine wpAny_loadPart_at hC ?_ | (with_reducible refine wpAny_isSubtype_exc hC ?_;rw[hcB]) | wp_step)
 rw[h1]
 refine wpAny_pure ?_
 rw[if_neg (by decide)]
 exact wpAny_pure (wpAny_raiseNew_none hh hE)
def Zk6(C:Addr)(sp:Sp)(dvs:List V)(E:XK)(t:TA):TS:=fun _ σ H=>t σ H fun vs H1=>vs.length≤8∧∀e,H1 e=none→sp (.ref e::(vs++dvs)) (upd H1 e (XN e (.ref C) none)) (fun v H2=>v= .non∧∃dd,H2 e=some (XN e (.ref C) dd)∧E (.ref C) dd (upd H2 e (XO e (.ref C) dd))) E0
theorem Fc{E:XK}{vs:List V}(L:Leaves X E)(M:ExcMk X.K C f)(F:FnOk X.prog X.w X.K X.mg X.base CX0 k f fd ps sp)(hr:Room (k+1) X.A)(hb:Zq X.K fd ps ds)(hd:Vals dvs ds)(I:Inv X pins σ H s)(r:Vals vs us)(hz:vs.length≤8)
  (h:∀e,H e=none→sp (.ref e::(vs++dvs)) (upd H e (XN e (.ref C) none)) (fun v H2=>v= .non∧∃dd,H2 e=some (XN e (.ref C) dd)∧E (.ref C) dd (upd H2 e (XO e (.ref C) dd))) E0):
  wpAny (model X.prog X.w) X.A (call (.ref C) us) (fun v s1=>∃(e:Addr) (nm q:Str) (N:Addr) (bs bm:List Value) (hdct:Bool) (sn:List Str) (sub:List Value) (ab:Bool) (col:Option Bool) (dd:Option Addr) (k0 k1 k2 k3 k5:Option Value) (dx:Option Addr),
   v= .ref e∧ExcCls s1.heap C nm q N bs bm hdct sn sub ab col dd k0 k1 k2 k3 k5 "ValueError" "ValueError.__new__"∧ExAt s1.heap e (.ref C) dx .none∧X.xe (.ref e) s1) X.xe s:=by
 refine thn (Zc1 (Q:=fun e H2=>∃dd,H2 e=some (XN e (.ref C) dd)∧E (.ref C) dd (upd H2 e (XO e (.ref C) dd))) M F hr hb hd I r (by rw[←r.length];exact Nat.le_trans hz (by decide)) h) fun v s1 zz65=>?_
 obtain⟨e,H',ev,I',s0,kin,dd',he,hE⟩:=zz65
 obtain⟨nm,q,N,bs,bm,hdct,sn,sub,ab,col,dd,k0,k1,k2,k3,k5,cl⟩:=M.at kin
 have x:ExAt s1.heap e (.ref C) dd' .none:=(I'.hok e _ he).1
 have I2:Inv X pins σ (upd H' e (XO e (.ref C) dd')) {s1 with heap:=s1.heap,toks:=s1.toks}:=
  I'.write (x:=e) (e:=e) (by rw[he];exact True.intro) (.inl rfl) (fun _ _ _ z=>z) (by obtain⟨oe,_,z,_⟩:=x;exact⟨oe,z⟩) (XO.ok x)
 exact⟨e,nm,q,N,bs,bm,hdct,sn,sub,ab,col,dd,k0,k1,k2,k3,k5,dd',ev,cl,x,Zx2 L I2 Zv x s0 hE⟩
theorem Z15{E:XK}{x:Str}{np cpos pos:Pos}(L:Leaves X E)(hc:X.calm=true)(M:ExcMk X.K C f)(F:FnOk X.prog X.w X.K X.mg X.base CX0 k f fd ps sp)(hr:Room (k+1) X.A)(hb:Zq X.K fd ps ds)(hd:Vals dvs ds)(hg:Gl X x)(hm:X.mg x=some (.ref C))
  (hdb:(x==("__debug__":Str))=false:=by decide):PS X (.Raise (some (.Call (.Name x np) [] [] cpos)) none pos) (Zk6 C sp dvs E tNil):=by
 intro pins s σ H D I h
 obtain⟨hz,h⟩:=h
 rw[arm_exec_Raise]
 simp only[evalOpt,Option.map]
 refine wpAny_bind (wpAny_standAt (Pd (C:=C) (I.ok.hd hc) ?_))
 refine wpAny_bind (wpAny_mono (Q:=fun v s1=>∃(e:Addr) (nm q:Str) (N:Addr) (bs bm:List Value) (hdct:Bool) (sn:List Str) (sub:List Value) (ab:Bool) (col:Option Bool) (dd:Option Addr) (k0 k1 k2 k3 k5:Option Value) (dx:Option Addr),
   v= .ref e∧ExcCls s1.heap C nm q N bs bm hdct sn sub ab col dd k0 k1 k2 k3 k5 "ValueError" "ValueError.__new__"∧ExAt s1.heap e (.ref C) dx .none∧X.xe (.ref e) s1) ?_ (fun v s1 z=>wpAny_bind (wpAny_standAt (wpAny_pure z))) fun _ _ z=>z)
 refine wpAny_Call_Name_kw (V3 I hg hm ?_ hdb)
 exact PySem.W.callWith_K0 I.kIn M.kp (Fc (us:=[]) L M F hr hb hd I .nil hz h)
end
end L3
namespace L3
open PySem PySem.W PySem.Calls PyProof.Rows Builtin Builtin.ObjectAttr
section
variable{prog:Program}{w:World}{A:Around}{E:Value→Shared→Prop}{K:Frag}{C D e:Addr}{s:Shared}
structure ExcIs(K:Frag)(C:Addr):Prop where
 cls:∃cd,clsIn K C=some cd∧cd.hasDict=true
 ga:findIn K (.ref C) "__getattribute__"=some (some (.builtin "BaseException.__getattribute__"))
 gh:findIn K (.ref C) "__getattr__"=some none
 base:mroIn K C (.type "BaseException")=some true
 own:findIn K (.ref C) "__class__"=some (some (.builtin "object.__class__"))
 ds:specialIn K (.builtin "object.__class__") "__get__"=some (some (.builtin "getset_descriptor.__get__"))
 tk:takesIn K (.builtin "object.__class__")=some true
 obj:mroIn K C (.type "object")=some true
theorem Z81{oe:Obj}{od:Obj}{Q:Option Value→Shared→Prop}(X:K.In s.heap)(S:ExcIs K C)(J:InstAt s.heap e oe C (some od))(h:Q (some (.ref C)) {s with toks:=s.toks+1}):
  wpAny (model prog w) A (getAttr? (.ref e) "__class__") Q E s:=by
 obtain⟨⟨cd,hcd,hdict⟩,hga,hgh,hbase,hown,hds,htk,hobj⟩:=S
 obtain⟨hp,g,d,t,os⟩:=s
 have hf:findObj K C (some od) "__class__"=some (.bind (.builtin "getset_descriptor.__get__") (.builtin "object.__class__")):=findObj_data (by rw[hcd];rfl) hown hds htk
 have L0:=J.type (M:=model prog w)
 have L1:=looks_findIn (M:=model prog w) X hga
 have L2:=looks_findIn (M:=model prog w) X hgh
 have L3':=looks_find (M:=model prog w) X J hf
 have sub:Looks (model prog w) hp (isInstance (.ref e) (.type "BaseException")) true:=L0.andThen (looks_mroIn X hbase)
 unfold getAttr? getAttrBy? getAttrBy
 refine wpAny_bind (wpAny_mkText (wpAny_bind (wpAny_attempt (wpAny_holding (wpAny_bind (L0.at (wpAny_bind (L1.at ?_))))))))
 show wpAny _ _ (getAttrByItsOwn _ _ _ _ _ _) _ _ _
 unfold getAttrByItsOwn
 refine wpAny_bind (L2.at (wpAny_bind (wpAny_attempt (wpAny_holding ?_))))
 unfold callGetattribute
 rw[if_neg (by decide)]
 unfold boundAndCalled
 rw[Zr0]
 refine wpAny_bind (wpAny_pure (wpAny_call ?_))
 refine codeAny_call_builtin Zg7 F.entry_bexc_ga (@check_slot (model prog w) _ _ _ "BaseException.__getattribute__" "BaseException" "__getattribute__" (.ref e) [.str "__class__" t] [] _ Zw3 Zi7 sub (Zv1 (.ref e) (.str "__class__" t)) ?_)
 show wpAny _ _ (typeOf (.ref e) >>=fun tp=>find (.ref e) tp "__class__" >>=_) _ _ _
 refine wpAny_bind (L0.at (wpAny_bind (L3'.at ?_)))
 have hcall:=class_get (prog:=prog) (w:=w) (A:=A.in1) (s:=⟨hp,g,d,t+1,os⟩) (tp:= .ref C) (R:=fun r s'=>r= .ok (.ret (.ref C))∧s'=⟨hp,g,d,t+1,os⟩) X J hobj ⟨rfl,rfl⟩
 unfold bindTo
 refine wpAny_bind (wpAny_holding (wpAny_call (codeAny_mono hcall fun r s' z=>?_)))
 obtain⟨rfl,rfl⟩:=z
 refine wpAny_pure ?_
 show wpAny _ _ (handedOut (.ref C)) _ _ _
 exact handed_on rfl (wpAny_pure h)
end
end L3
namespace L3
open PySem PySem.Spec PyProof.Rows L2
section
variable{K:PySem.W.Frag}{C e:Addr}
theorem Fq{oe od:Obj}(S:ExcIs K C):PySem.W.KitX K (.ref e) (.ref C) (fun h=>PySem.W.InstAt h e oe C (some od)) where
 ty:=fun _ _ _ I=>I.type
 it:=fun _ _ X _=>by
  obtain⟨cd,hcd,_⟩:=S.cls
  unfold PySem.W.clsIn at hcd
  split at hcd
  ·rename_i ho
   intro A' Q' E' s' k q
   unfold isType loadHead
   exact wpAny_bind (wpAny_loadPart (k _ _ (X _ _ ho)) (wpAny_pure q))
  ·cases hcd
 ne:=fun h tp dd its n sl X htp=>by
  obtain⟨cd,hcd,_⟩:=S.cls
  refine Bool.eq_false_iff.mpr fun q=>?_
  have z:C=tp:=Value.ref.inj (beq_iff_eq.mp q)
  subst z
  unfold PySem.W.clsIn at hcd
  split at hcd
  ·rename_i ho
   have y:=(X _ _ ho).symm.trans htp
   cases y
  ·cases hcd
 ca:=fun X I k=>Z81 X S I k
variable{X:Cx}{pins:List (Addr×Obj)}{σ:L2.St}{H:Hp}{s:Shared}{dx:Addr}{fs:List (Str×V)}
theorem Gz(I:Inv X pins σ H s)(he:H e=some (XO e (.ref C) (some dx)))(hd:H dx=some (.xd fs)):∃(oe od:Obj) (mA:Str→Option Value),PySem.W.InstAt s.heap e oe C (some od)∧(∀name,PySem.W.lookIn name od=some (mA name))∧∀f,RelO (fs.lookup f) (mA f):=by
 obtain⟨tb,oe,vs,h1,⟨h2,h3⟩,h4,_⟩:=XO.at (I.hok e _ he)
 obtain⟨mA,hn,hr⟩:=(show Yu X.prog X.w H s.heap dx (.xd fs) from I.hok dx _ hd)
 obtain⟨od,q1,q2⟩:=Ni hn
 refine⟨oe,od,mA,⟨h1,h2,by unfold PySem.W.notCls;rw[h4],by rw[h3];exact q1⟩,q2,hr⟩
def rIsX(K:PySem.W.Frag):List V→Hp→VK→Prop:=fun xs H Q=>∃e C dx fs c cv b,xs=[.ref e,c]∧H e=some (XO e (.ref C) (some dx))∧H dx=some (.xd fs)∧ExcIs K C∧(∀u,RelV c u→u=cv)∧PySem.W.kitOne K (.ref C) cv=some b∧Q (.bl b) H
theorem C0:Vq X (.builtin "isinstance") (rIsX X.K):=by
 intro pins s σ H xs us Q I r h
 obtain⟨e,C,dx,fs,c,cv,b,rfl,he,hd,S,hc,k,q⟩:=h
 obtain⟨u,v,rfl,ru,rv⟩:=J7 r
 obtain rfl:u=Value.ref e:=ru
 cases hc v rv
 obtain⟨oe,od,mA,J,_⟩:=Gz I he hd
 exact PySem.W.kia_one (Fq S) I.kIn J k (fun z=>nomatch z) fun tk=>⟨.bl b,H,I.tok tk,rfl,q⟩
end
def XP(X:Cx)(pins:List (Addr×Obj))(σ:L2.St)(E:XK)(x:Value)(s':Shared):Prop:=∃(e T:Addr) (cls:Value) (dd:Option Addr) (H':Hp),x= .ref e∧Inv X pins σ H' s'∧FpOk X pins H' T∧T≠e∧H' e=some (XO e cls dd)∧
 ExAt s'.heap e cls dd (.ref T)∧TbAt s'.heap T .none∧E cls dd H'
abbrev TEX:=L2.St→Hp→VK→XK→Prop
abbrev TSX:=Ends→XK→L2.St→Hp→Prop
def PEX(X:Cx)(e:Expr)(t:TEX):Prop:=
 ∀(pins:List (Addr×Obj)) (s:Shared) (σ:L2.St) (H:Hp) (Q:VK) (E:XK),Inv X pins σ H s→t σ H Q E→wpAny (model X.prog X.w) X.A (eval e X.env) (EP X pins σ Q) (XP X pins σ E) s
def PSX(X:Cx)(st:List Stmt)(t:TSX):Prop:=
 ∀(pins:List (Addr×Obj)) (s:Shared) (σ:L2.St) (H:Hp) (D:Ends) (E:XK),Inv X pins σ H s→t D E σ H→wpAny (model X.prog X.w) X.A (execs st X.env) (SP X pins D) (XP X pins σ E) s
section
variable{X:Cx}{k:Nat}{f:Addr}{fd:FuncData}{ps:List Str}{sp:Sp}{dvs:List V}{ds:List Value}{x:Str}{p pos:Pos}{e:Expr}{es:List Expr}{t:TA}
theorem Zz4{pins:List (Addr×Obj)}{σ:L2.St}{H:Hp}{s s':Shared}{E:XK}{x:Value}(I:Inv X pins σ H s)(h:CX1 X.prog X.w X.stack H s E x s'):XP X pins σ E x s':=by
 obtain⟨ea,T,cls,dd,H',eq,os,bare,un,hok,⟨f1,f2⟩,g1,⟨g2,g3⟩,x1,t1,hE⟩:=h
 have J:Inv X pins σ H' s':=I.call' (ch:=[]) os un hok bare fun b z=>absurd z (by simp)
 exact⟨ea,T,cls,dd,H',eq,J,I.fpOk f2 g2,g3,g1,x1,t1,hE⟩
def Zm9(sp:Sp)(dvs:List V)(t:TA):TEX:=fun σ H Q E=>t σ H fun vs H1=>sp (vs++dvs) H1 Q E
theorem Zb7(F:FnOk X.prog X.w X.K X.mg X.base (CX1 X.prog X.w) k f fd ps sp)(hr:Room k X.A)(hg:Gl X x)(hm:X.mg x=some (.ref f))(hk:PySem.W.keepIn X.K (.ref f)=true)(hb:Zq X.K fd ps ds)(hd:Vals dvs ds)
  (ha:PA X.nox (e::es) t) (hdb:(x==("__debug__":Str))=false:=by decide) (he:starEach (e::es) X.env=(false,eval e X.env)::starEach es X.env:=by rfl) (hpl:(backTo pos (starEach es X.env)).any (·.1)=false:=by rfl):
  PEX X (.Call (.Name x p) (e::es) [] pos) (Zm9 sp dvs t):=by
 intro pins s σ H Q E I h
 refine wpAny_Call_Name_kw (V3 I hg hm ?_ hdb)
 refine PySem.W.callWith_K (h₀:=X.base) I.ok.mod.kin hk (wpAny_mono (ha pos pins s σ H _ (I.wish _) h) (fun us s1 zz66=>?_) fun _ _ z=>z.elim) he hpl
 obtain⟨vs,H1,I1,r,q⟩:=zz66
 have I2:Inv X pins σ H1 s1:=I1.unwish
 refine⟨I2.kIn,?_⟩
 have r2:Vals (vs++dvs) (us++ds):=r.append hd
 have hl:(us++ds).length=ps.length:=by rw[←r2.length];exact F.len _ _ _ _ q
 refine wpAny_call (codeAny_mono (F.run X.A X.stack s1 H1 ⟨us,[]⟩ (us++ds) (vs++dvs) Q E hr I2.env0 (hb s1 us I2.kIn hl) r2 q) fun rr s' hq=>?_)
 cases rr with
 | error z=>exact Zz4 I2 hq
 | ok fl=>
  cases fl with
  | ret u=>exact I2.after hq
  | next=>exact False.elim hq
  | brk=>exact False.elim hq
  | cont=>exact False.elim hq
variable{te:TEX}
def Zx8(te:TEX):TSX:=fun D E σ H=>te σ H (fun _ H1=>D.nx σ H1) E
theorem Zi4(he:PEX X e te)(hs:swapsWith e none pos.line X.env=pure false:=by rfl):PSX X [.Expr e pos] (Zx8 te):=by
 intro pins s σ H D E I h
 refine wpAny_execs_cons (wpAny_Expr_any (thn (he pins s σ H _ E I h) fun u s1 h1=>?_) I.quiet hs)
 obtain⟨v,H1,I1,r,q⟩:=h1
 exact wpAny_execs_nil ⟨σ,H1,I1,q⟩
def Y73(te:TEX):TSX:=fun D E σ H=>te σ H D.rt E
theorem Zs7(he:PEX X e te):PSX X [.Return (some e) pos] (Y73 te):=by
 intro pins s σ H D E I h
 refine wpAny_execs_cons (wpAny_Return_some (thn (he pins s σ H _ E I h) fun u s1 h1=>?_))
 obtain⟨v,H1,I1,r,q⟩:=h1
 exact⟨v,σ,H1,I1,r,q⟩
def Y69(te:TEX)(i:Nat):TSX:=fun D E σ H=>te σ H (fun y H1=>D.nx (σ.set i (some y)) H1) E
theorem Zq3{i:Nat}{x:Str}{pos':Pos}(hN:X.N.Nodup)(hi:X.N[i]?=some x)(hx:Loc X.env.scope x)(he:PEX X e te)(hs:swapsWith e (some (.Name x pos')) pos.line X.env=pure false:=by rfl)(hf:X.fn x=true∨X.env.scope.names.lookup x=some .local:=by first | exact .inl rfl | exact .inr rfl | assumption):
  PSX X [.Assign [.Name x pos'] e pos] (Y69 te i):=by
 intro pins s σ H D E I h
 refine wpAny_execs_cons (wpAny_Assign_Name (thn (he pins s σ H _ E I h) fun v s1 h1=>?_) hs)
 obtain⟨y,H1,I1,r1,q1⟩:=h1
 exact Eh I1 hN hi hx r1 (fun s2 I2=>wpAny_execs_nil ⟨_,H1,I2,q1⟩) hf
end
noncomputable def Held(X:Cx)(e:Addr):Cx:={X with A:=X.A.mark (some (.ref e)),calm:=false,xe:=fun _ _=>False}
section
variable{X:Cx}{pins:List (Addr×Obj)}{σ:L2.St}{H:Hp}{s:Shared}{e:Addr}
theorem Zv7(ok:X.Ok)(e:Addr):(Held X e).Ok:=
 ⟨ok.mod,ok.kind,ok.glob,ok.blt,ok.above,ok.inj,ok.has,ok.cab,(fun z=>nomatch z),ok.frames,ok.stk,ok.exf,ok.bs,ok.bsz,ok.noex,ok.exfs,ok.funs,ok.frf⟩
theorem Zw8(I:Inv X pins σ H s)(e:Addr):Inv (Held X e) pins σ H s:=⟨Zv7 I.ok e,I.os,I.bare,I.base,I.loc,I.cell,I.free,I.freeC,I.pin,I.hok,I.len⟩
theorem Rb(ok:X.Ok)(I:Inv (Held X e) pins σ H s):Inv X pins σ H s:=⟨ok,I.os,I.bare,I.base,I.loc,I.cell,I.free,I.freeC,I.pin,I.hok,I.len⟩
theorem Zb3{T T1:Addr}{cls:Value}{dd:Option Addr}{h1:Heap}(I:Inv X pins σ H s)(ft:FpOk X pins H T)(he:H e=some (XO e cls dd))(x1:ExAt h1 e cls dd (.ref T1))(fl:Flown (frsE X.stack) [e,T] s.heap h1):
  Inv X pins σ H {s with heap:=h1}:=by
 obtain⟨f0,f1,f2,f3,f4,f5⟩:=ft
 have ne:∀b,H b=none→b≠e:=fun b n z=>by rw[z,he] at n;cases n
 have hk:∀b o,b∉frsE X.stack→b≠T→b≠e→s.heap.get? b=some o→h1.get? b=some o:=fun b o z1 z2 z3 q=>fl.keep b o q z1 (by simp[z2,z3])
 have hs:∀b o,b≠T→b≠e→s.heap.get? b=some o→∃sl,h1.get? b=some {o with slots:=sl}:=fun b o z2 z3 q=>by
  by_cases z1:b∈frsE X.stack
  ·exact fl.slot b o q z1 (by simp[z2,z3])
  ·exact⟨o.slots,hk b o z1 z2 z3 q⟩
 refine I.step (g':=s.gens) (t':=s.toks) (d':=s.drawn) (ch:=[T]) (fun b hb=>?_) (fun b o z1 z2 z3 q n=>hk b o (fun z=>?_) (by simpa using z3) (ne b n) q) (fun b o _ _ z3 q n=>hs b o (by simpa using z3) (ne b n) q) (fun _ _ _ _ n=>n)
  (fun b o _ q=>fl.there b o q) (fun _ _ q=>q) (fun _ _ _ q=>q) (fun _ ps q=>⟨#[],by rw[q];simp⟩) (fun m hm=>?_) ?_ I.bare
 ·rw[List.mem_singleton.mp hb]
  exact⟨f3,f1,f4,f5⟩
 ·rcases List.mem_cons.mp (I.stkSub b z) with y | y
  ·exact z1 y
  ·exact z2 y
 ·obtain⟨o,es,ep,ho,r⟩:=hm
  obtain⟨sl,q⟩:=hs _ o (Ne.symm f1) (ne _ I.free) ho
  exact⟨_,es,ep,q,r⟩
 ·refine Ju I.hok he x1 fun b u o q hb r=>hk b o (fun z=>?_) (fun z=>?_) hb r
  ·rw[I.stkFree b z] at q;cases q
  ·rw[z,f0] at q;cases q
theorem Ep{T1:Addr}{h2:Heap}(I:Inv X pins σ H s)(ft:FpOk X pins H T1)(k:∀b o,b≠T1→s.heap.get? b=some o→h2.get? b=some o):Inv X pins σ H {s with heap:=h2}:=by
 obtain⟨f0,f1,f2,f3,f4,f5⟩:=ft
 exact I.turned (t':=s.toks) k f0 f1 f3 f4 f5
end
structure Catch(K:PySem.W.Frag)(C D:Addr)(b:Bool):Prop where
 ty:PySem.W.typeIn K (.ref D)=some (.type "type")
 cls:(PySem.W.clsIn K D).isSome=true
 exc:PySem.W.mroIn K D (.type "BaseException")=some true
 sub:PySem.W.mroIn K C (.ref D)=some b
section
open PySem.W
theorem Gj{prog:Program}{w:World}{A:Around}{E:Value→Shared→Prop}{K:Frag}{C D e:Addr}{b:Bool}{oe:Obj}{s:Shared}{Q:Bool→Shared→Prop}(X:K.In s.heap)(S:Catch K C D b)(he:s.heap.get? e=some oe)(hc:oe.cls= .ref C)(h:Q b s):
  wpAny (model prog w) A (excMatches (.ref e) (.ref D)) Q E s:=by
 obtain⟨ht,hD,hB,hs⟩:=S
 obtain⟨hp,g,d,t,os⟩:=s
 have L1:Looks (model prog w) hp (typeOf (.ref D)) (.type "type"):=looks_typeIn X ht
 have L2:Looks (model prog w) hp (isType (.ref D)) true:=by
  unfold clsIn at hD
  split at hD
  ·rename_i ho
   intro A' Q' E' s' k q
   unfold isType loadHead
   exact wpAny_bind (wpAny_loadPart (k _ _ (X _ _ ho)) (wpAny_pure q))
  ·cases hD
 have L3:Looks (model prog w) hp (isSubtype (.ref D) (.type "BaseException")) true:=looks_mroIn X hB
 have L4:Looks (model prog w) hp (typeOf (.ref e)) (.ref C):=by rw[←hc];exact(Looks.ld he).andThen .now
 have L5:Looks (model prog w) hp (isSubtype (.ref C) (.ref D)) b:=looks_mroIn X hs
 unfold excMatches isInstance
 refine wpAny_bind (wpAny_bind (L1.at ?_))
 rw[tc_notTuple]
 refine wpAny_pure ?_
 simp only[Bool.false_eq_true,if_false]
 refine wpAny_bind (wpAny_pure ?_)
 rw[List.forIn_cons]
 refine wpAny_bind (wpAny_bind ?_)
 unfold isExcClass
 refine wpAny_bind (wpAny_bind (L2.at ?_))
 simp only[if_true]
 refine L3.at ?_
 simp only[Bool.not_true,Bool.false_eq_true,if_false]
 refine wpAny_pure ?_
 show wpAny _ _ (pure PUnit.unit) _ _ _
 refine wpAny_pure ?_
 refine wpAny_bind (L4.at (wpAny_bind ?_))
 rw[List.forIn_cons]
 refine wpAny_bind (wpAny_bind (L5.at ?_))
 cases b with
 | true=>
  simp only[if_true]
  exact wpAny_pure (wpAny_pure (wpAny_pure h))
 | false=>
  simp only[Bool.false_eq_true,if_false]
  refine wpAny_pure ?_
  show wpAny _ _ (pure (none,PUnit.unit)) _ _ _
  exact wpAny_pure (wpAny_pure h)
end
section
variable{X:Cx}{body suite:List Stmt}{b₀:Stmt}{x n:Str}{np hpos pos:Pos}{D:Addr}{i:Nat}{tb:TSX}{ts:TS}
theorem Zs2{P:Program}{w:World}{K:PySem.W.Frag}{mg:Str→Option Value}{base:Heap}{x qual:Str}{st:Stmt}{f:Addr}{fd:FuncData}{N ps:List Str}{k:Nat}{sp:Sp}(F:Fun K x qual st f fd)(S:FnScope N ps (Z0 st))(len:∀vs H Q E,sp vs H Q E→vs.length=ps.length)
  (hbody:∀(cdv:Value) (A:Around) (outer:List Env) (s:Shared) (H:Hp) (vs:List V) (Q:VK) (E:XK),Room k (A.deeper (envOfC qual (Z0 st) s.heap.objs.size f cdv))→sp vs H Q E→
   ∃t,PSs (cxOf (CX1 P w) P w K mg base N qual (Z0 st) f cdv A outer s H E) (Z4 st) t∧t {nx:=fun _ H'=>Q .non H',rt:=Q} (start N vs) H):FnOk P w K mg base (CX1 P w) (k+1) f fd ps sp:=by
 obtain⟨oc,od,dV,kV,doc,pm,an,cdv,ct,osl,rfl,lk,hcd⟩:=F.ex
 exact Zs1 lk hcd S len fun A outer s H vs Q E hr hsp=>hbody cdv A outer s H vs Q E hr hsp
end
end L3
namespace L3
open PySem PyProof.Rows
section
variable{prog:Program}{w:World}{A:Around}{E:Value→Shared→Prop}{s:Shared}
abbrev Zk7(h:Heap)(z TI TO:Addr)(f0:Value)(b:Bool):Prop:=
 h.get? z=some {cls:= .type "zip",dict:=none,data:= .fields #[f0,.bool b,.bool false,.ref TI,.ref TO],slots:=#[]}
end
section
variable{prog:Program}{w:World}{A:Around}{E:Value→Shared→Prop}{s:Shared}
structure ZS(h0 h:Heap)(S z TI TO i1 i2 l1 l2:Addr)(xs ys:Array Value)(Ts:List Addr):Prop where
 kept:∀b o,h0.get? b=some o→h.get? b=some o
 zp:(Ts=[]∧Zk7 h z TI TO .none false∧∃a b,IsPair h TO a b)∨∃(T:Addr) (b:Bool) (oT:Obj),Zk7 h z TI TO (rawInt T) b∧h.get? T=some oT
 ti:IsPair h TI (.ref i1) (.ref i2)
 to:∃o,h.get? TO=some o
 t1:h.IsListIter i1 l1 Ts.length
 t2:h.IsListIter i2 l2 Ts.length
 nd:Ts.Nodup
 tp:∀(j:Nat) T,Ts[j]?=some T→∃x y,xs[j]?=some x∧ys[j]?=some y∧IsPair h T x y
 tb:∀T∈Ts,h0.objs.size≤T∧T≠z∧T≠TO∧T≠i1∧T≠i2∧T≠S
structure ZF(h0:Heap)(S z TI TO i1 i2 l1 l2:Addr)(xs ys:Array Value):Prop where
 D:ZipApart z TI TO i1 i2 l1 l2
 l1:h0.IsList l1 xs
 l2:h0.IsList l2 ys
 nz:h0.objs.size≤z
 nTO:h0.objs.size≤TO
 n1:h0.objs.size≤i1
 n2:h0.objs.size≤i2
 nS:h0.objs.size≤S
 sz:S≠z
 sTI:S≠TI
 sTO:S≠TO
 s1:S≠i1
 s2:S≠i2
end
structure ZEnd(h0 h:Heap)(S:Addr)(xs ys:Array Value)(Ts:List Addr):Prop where
 kept:∀b o,h0.get? b=some o→h.get? b=some o
 len:Ts.length=min xs.size ys.size
 nd:Ts.Nodup
 tp:∀(j:Nat) T,Ts[j]?=some T→∃x y,xs[j]?=some x∧ys[j]?=some y∧IsPair h T x y
 tb:∀T∈Ts,h0.objs.size≤T∧T≠S
 so:∃c,h.get? S=some {cls:= .type "list",dict:=none,data:= .seq (Ts.map Value.ref).toArray c,slots:=#[]}
section
variable{prog:Program}{w:World}{A:Around}{R:Result→Shared→Prop}
end
section
variable{prog:Program}{w:World}{A:Around}{E:Value→Shared→Prop}{s:Shared}{R:Result→Shared→Prop}
end
end L3
namespace L3
open PySem PySem.Spec PyProof.Rows L2
section
variable{X:Cx}{pins:List (Addr×Obj)}{σ:L2.St}{H H':Hp}{s:Shared}{h':Heap}
end
section
variable{X:Cx}
end
section
variable{X:Cx}
def tRev(K:PySem.W.Frag)(te:TE)(tk:TO):TE:=fun σ H Q=>te σ H fun x H1=>tk σ H1 fun o H2=>o=some (-1)∧∃a xs,x=V.ref a∧SqL K H2 a xs∧∀p,H2 p=none→Q (.ref p) (upd H2 p (.lst xs.reverse))
theorem Y34{e k:Expr}{te:TE}{tk:TO}{p2 pos:Pos}(he:PE X e te)(hk:PO X (some k) tk):PE X (.Subscript e (.Slice none none (some k) p2) pos) (tRev X.K te tk):=by
 intro pins s σ H Q I h
 refine Subscript_ (thn (he pins s σ H _ I h) fun v s1 zz67=>?_)
 obtain⟨x,H1,I1,r1,q1⟩:=zz67
 refine wpAny_Slice ?_
 simp only[evalPart_none]
 refine wpAny_pure (wpAny_pure ?_)
 refine thn (hk pins s1 σ H1 _ I1 q1) fun vk s2 zz68=>?_
 obtain⟨o,H2,I2,pk,q2⟩:=zz68
 obtain⟨rfl,a,xs,rfl,hx,q⟩:=q2
 cases r1
 have I3:Inv X pins σ H2 {s2 with heap:=s2.heap.push {cls:= .type "slice",data:= .fields #[.none,.none,vk]}}:=I2.kept (t':=s2.toks) fun b ob q=>Heap.get?_push_of_some _ q
 obtain⟨its,r,ht,hz⟩:=I3.list hx
 have hlen:=r.length
 show wpAny (model X.prog X.w) X.A (subscriptTail e (.Slice none none (some k) p2) (.ref a) (.ref s2.heap.objs.size)) (EP X pins σ Q) X.xe {s2 with heap:=s2.heap.push {cls:= .type "slice",data:= .fields #[.none,.none,vk]}}
 refine tail_any (ops:=[.ref a,.ref s2.heap.objs.size]) ht.isList.typeIs slot_list_getitem.lookup ?_ (by with_unfolding_all rfl)
 refine wpAny_getItem_list_slice ht.isList (Heap.IsSliceOf.new ..) .none .none pk (by simp) ?_ (by rw[List.size_toArray]<;>omega)
 rw[PySem.W.krv_pick]
 refine⟨.ref _,_,I3.laid (t':=s2.toks) (o:= .lst xs.reverse) (fun b ob q=>Heap.get?_push_of_some _ q) (Nat.le_refl _) ?_,rfl,q _ (I3.hok.fresh (Nat.le_refl _))⟩
 exact⟨by rw[List.length_reverse];exact hz,_,0,r.reverse,Heap.get?_push_size _ rfl⟩
theorem Zr8{pins:List (Addr×Obj)}{σ:L2.St}{H:Hp}{s:Shared}{h':Heap}{t':Nat}{a b:Addr}(I:Inv X pins σ H s)(k:∀c o,c≠a→c≠b→s.heap.get? c=some o→h'.get? c=some o)(fa:FpOk X pins H a)(fb:FpOk X pins H b):Inv X pins σ H {s with heap:=h',toks:=t'}:=by
 have na:∀c u,H c=some u→c≠a:=by
  intro c u e z
  rw[z,fa.1] at e
  cases e
 have nb:∀c u,H c=some u→c≠b:=by
  intro c u e z
  rw[z,fb.1] at e
  cases e
 have kk:∀c o,c∉[a,b]→s.heap.get? c=some o→h'.get? c=some o:=by
  intro c o hc e
  refine k c o ?_ ?_ e
  ·intro z;apply hc;rw[z];simp
  ·intro z;apply hc;rw[z];simp
 refine I.step (ch:=[a,b]) (g':=s.gens) (d':=s.drawn) ?_ ?_ ?_ ?_ ?_ ?_ ?_ ?_ ?_ ?_ I.bare
 ·intro c hc
  have:c=a∨c=b:=by simpa using hc
  rcases this with rfl | rfl
  ·exact⟨fa.2.2.2.1,fa.2.1,fa.2.2.2.2.1,fa.2.2.2.2.2⟩
  ·exact⟨fb.2.2.2.1,fb.2.1,fb.2.2.2.2.1,fb.2.2.2.2.2⟩
 ·intro c o _ _ hc e _;exact kk c o hc e
 ·intro c o _ _ hc e _;exact⟨o.slots,kk c o hc e⟩
 ·intro _ _ _ _ n;exact n
 ·intro c o hc e;exact⟨o,kk c o hc e⟩
 ·intro _ _ e;exact e
 ·intro _ _ _ e;exact e
 ·intro c ps e;exact⟨#[],by rw[e];simp⟩
 ·rintro m ⟨o,es,ep,ho,r⟩
  exact⟨o,es,ep,k _ o (Ne.symm fa.2.1) (Ne.symm fb.2.1) ho,r⟩
 ·intro c u e
  refine(I.hok c u e).stay ?_ (fun _ q=>q) fun _ _ q=>q
  intro d v hd q
  rcases hd with z | z
  ·subst z;exact k d v (na d u e) (nb d u e) q
  ·exact k d v (na d _ z) (nb d _ z) q
noncomputable def Ite(K:PySem.W.Frag)(a:Addr):It:=
 ⟨fun i H=>∃xs x,SqL K H a xs∧xs[i]?=some x,fun i H x H'=>∃p y,H p=none∧H'=upd H p (.tup [.int i,y])∧x= .ref p∧∀xs,SqL K H a xs→xs[i]?=some y,fun i H=>∃xs,SqL K H a xs∧xs.length≤i⟩
theorem O4{h:Heap}{o u:Obj}{b:Addr}(e:(h.push o).get? b=some u):h.get? b=some u∨b=h.objs.size:=by
 by_cases hb:b=h.objs.size
 ·exact .inr hb
 ·refine .inl ?_
  have hl:=Heap.lt_size e
  rw[Heap.size_push] at hl
  obtain⟨e1,e2⟩:=Heap.get?_some_iff.mp e
  refine Heap.get?_some_iff.mpr ⟨?_,e2⟩
  cases h
  simpa[Heap.push,Array.getElem?_push,hb] using e1
theorem Z29{P:Program}{w:World}{K:PySem.W.Frag}{elts:List Expr}{x1:Nat}{tp:Pos}(a e it:Addr)(hne:e≠it):
  Turn P w K (.Tuple elts x1 tp) (Ite K a) [e,it] e (fun i h=>(∃old,IsEnum h e it i old)∧h.IsListIter it a i) where
 mem:=by simp
 obj:=by
  rintro i h ⟨⟨old,he⟩,hit⟩ b hb
  have:b=e∨b=it:=by simpa using hb
  rcases this with rfl | rfl
  ·exact⟨_,he,fun v z=>by cases z⟩
  ·obtain⟨o,e,c,d⟩:=hit
   exact⟨o,e,fun v z=>by rw[d] at z;cases z⟩
 keep:=by
  rintro i h h' ⟨⟨old,he⟩,hit⟩ k
  exact⟨⟨old,k e (by simp) _ he⟩,hit.at fun o z=>k it (by simp) o z⟩
 item:=by
  rintro X rfl rfl rfl hc i pins s σ H E I hf ⟨⟨old,he⟩,hit⟩ ⟨xs,x,hq,hx⟩
  obtain⟨its,rv,p,hz⟩:=I.list hq
  obtain⟨u,hu,ru⟩:=rv.get hx
  have fe:=hf e (by simp)
  have fi:=hf it (by simp)
  have le:e<s.heap.objs.size:=Heap.lt_size he
  have li:it<s.heap.objs.size:=by obtain⟨o,z,_⟩:=hit;exact Heap.lt_size z
  refine wpAny_pyNext_enum_item he hit p.isList (x:=u) (by simpa using hu) hne fun h1 ho hit1 hT hsz hk=>?_
  refine⟨_,rfl,wpAny_letOwnedTupleGo_enum ho fun h2 he2 hs2=>?_⟩
  replace hs2:Heap.SameBut e h1 h2:=hs2
  have hT2:h2.get? s.heap.objs.size=some {cls:= .type "tuple",data:= .seq #[.int i s.toks,u]}:=(hs2.2 _ (Nat.ne_of_gt le)).trans hT
  have hn:H s.heap.objs.size=none:=I.hok.fresh (Nat.le_refl _)
  have I1:Inv X pins σ (upd H s.heap.objs.size (.tup [.int i,x])) {s with heap:=s.heap.push {cls:= .type "tuple",data:= .seq #[.int i s.toks,u]},toks:=s.toks+1}:=by
   refine I.laid (fun b ob q=>Heap.get?_push_of_some _ q) (Nat.le_refl _) ⟨show 2≤sizeLine by rw[sizeLine_eq];omega,[.int i s.toks,u],.cons ⟨_,rfl⟩ (.cons ru .nil),⟨_,Heap.get?_push_size _ rfl,rfl,_,rfl⟩⟩
  have up:∀b,b<s.heap.objs.size→FpOk X pins H b→FpOk X pins (upd H s.heap.objs.size (.tup [.int i,x])) b:=by
   rintro b lb ⟨f0,f⟩
   refine⟨?_,f⟩
   rw[Z9 (Nat.ne_of_lt lb)]
   exact f0
  have I2:=Zr8 (h':=h2) (t':=s.toks+1) I1 (fun c o ha hb e'=>by
   rcases O4 e' with z | z
   ·exact(hs2.2 c ha).trans (hk c o ha hb z)
   ·subst z
    have z2:(s.heap.push {cls:= .type "tuple",data:= .seq #[.int i s.toks,u]}).get? s.heap.objs.size=some o:=e'
    rw[Heap.get?_push_size _ rfl] at z2
    cases z2
    exact hT2) (up e le fe) (up it li fi)
  refine⟨.ref s.heap.objs.size,_,I2,rfl,⟨_,x,hn,rfl,rfl,fun ys hy=>by rw[I.list_inj hy hq];exact hx⟩,⟨⟨_,by simpa using he2⟩,hit1.at fun o z=>(hs2.2 it (Ne.symm hne)).trans z⟩,fun b hb=>?_⟩
  have:b=e∨b=it:=by simpa using hb
  rcases this with rfl | rfl
  ·exact(up _ le fe).1
  ·exact(up _ li fi).1
 done:=by
  rintro X rfl rfl rfl hc i pins s σ H E I hf ⟨⟨old,he⟩,hit⟩ ⟨xs,hq,hx⟩
  obtain⟨its,rv,p,hz⟩:=I.list hq
  obtain⟨f0,f1,f2,f3,f4,f5⟩:=hf it (by simp)
  have hl:=rv.length
  exact wpAny_pyNext_enum_end (I.ok.hd hc) he hit p.isList (by simp;omega) fun h' eb=>⟨rfl,I.turned (t':=s.toks) (fun b o hb e=>eb b o hb e) f0 f1 f3 f4 f5⟩
 self:=by
  rintro A i s Q E ⟨⟨old,he⟩,hit⟩ h
  exact wpAny_pyIter_enum he h
def Y74(K:PySem.W.Frag)(ta:TA):TI:=fun σ H R=>ta σ H fun vs H1=>∃a,vs=[V.ref a]∧(∃xs,SqL K H1 a xs)∧R (Ite K a) H1
theorem Zu6{elts:List Expr}{x1:Nat}{tp:Pos}{l:Expr}{ta:TA}{p pos:Pos}(hg:Gl X "enumerate")(hm:X.mg "enumerate"=none)(ha:PA X [l] ta)(hs:starEach [l] X.env=[(false,eval l X.env)]):
  PI X (.Tuple elts x1 tp) (.Call (.Name "enumerate" p) [l] [] pos) (Y74 X.K ta):=by
 intro pins s σ H R I h
 refine Call_ (Q3 I hg hm (u:= .type "enumerate") (by kernel_rfl) (PyProof.Rows.callWith_type1 (thn (ha pos pins s σ H _ I h) fun us s1 zz69=>?_) hs rfl))
 obtain⟨vs,H1,I1,r1,q1⟩:=zz69
 obtain⟨a,rfl,⟨xs,hq⟩,q⟩:=q1
 obtain⟨u,rfl,ru⟩:=Nc r1
 cases ru
 obtain⟨its,rv,pl,hz⟩:=I1.list hq
 refine call_enumerate_list pl.isList fun h' he hit hsz hk=>?_
 refine wpAny_pyIter_enum he ?_
 have hne:s1.heap.objs.size+1≠s1.heap.objs.size:=by omega
 refine⟨s1.heap.objs.size+1,[s1.heap.objs.size+1,s1.heap.objs.size],_,_,H1,rfl,I1.kept (t':=s1.toks) hk,Z29 a _ _ hne,⟨⟨_,he⟩,hit⟩,fun b hb=>?_,q⟩
 have hb':s1.heap.objs.size≤b:=by
  have:b=s1.heap.objs.size+1∨b=s1.heap.objs.size:=by simpa using hb
  rcases this with rfl | rfl
  ·exact Nat.le_succ _
  ·exact Nat.le_refl _
 exact I1.fpOk hb' (I1.hok.fresh hb')
end
end L3
namespace PySem
theorem Ng:typeLookup (.type "list") "keys"=pure none:=by rw[typeLookup_type,builtinLookup_eq_fast];kernel_rfl
theorem Zs5{prog:Program}{w:World}{A:Around}{E:Value→Shared→Prop}{s:Shared}{a:Addr}{o:Obj}{xs:Array Value}{k:Nat}{name:Str}{u:Tok}{Q:Value→Shared→Prop}
  (hx:s.heap.get? a=some o) (hc:o.cls= .type "list") (hdat:o.data= .seq xs k) (hd:o.dict=none) (hmiss:typeLookup (.type "list") name=pure none) (hname:(["__module__","__name__","__qualname__","__doc__","__annotations__"]:List Str).contains name=false) (hA:A.handled=none)
  (h:∀h' tk e,Heap.NewExcOf s.heap h' e "AttributeError"→E (.ref e) {s with heap:=h',toks:=tk}) (hsz:name.length+100≤sizeLine:=by size_fits):
  wpAny (model prog w) A (getAttrBy (.ref a) (.str name u) false) Q E s:=by
 obtain⟨c,dct,dat,sl⟩:=o
 simp only at hc hdat hd
 subst hc hdat hd
 obtain⟨hp,g,d,tk,os⟩:=s
 have hT:∀tk',(⟨hp,g,d,tk',os⟩:Shared).TypeIs (.ref a) "list":=fun _=>⟨_,hx,rfl⟩
 have f1:=sub_AttributeError
 have f3:=F.slot_list_getattribute.lookup
 have f4:=F.slot_list_getattribute.bind (.ref a)
 have f5:=am_list_getattr_none
 unfold getAttrBy
 repeat (any_goals (first | assumption | exact hT _ | ((with_reducible show wpAny _ _ (call (Value.builtin "list.__getattribute__") _ _) _ _ _);refine call_meets F.slot_list_getattribute (hT _) am_entry_list_getattribute (F.args_list_getattribute_2 _ _) (meets_getattribute_miss_list a xs k sl name _ hmiss hname hsz) ⟨hx,hA,fun h' tk' e hx'=>?_⟩) | wp_step))
 obtain⟨t',u',he⟩:=hx'.there
 show wpAny _ _ (getattributeRaised _ _ _ _ _ _ _) _ _ _
 unfold getattributeRaised
 repeat (any_goals (first | assumption | wp_step))
 exact h _ _ _ hx'.of
theorem Zw4{prog:Program}{w:World}{A:Around}{E:Value→Shared→Prop}{s:Shared}{a:Addr}{o:Obj}{xs:Array Value}{k:Nat}{Q:Option Value→Shared→Prop}
  (hx:s.heap.get? a=some o) (hc:o.cls= .type "list") (hdat:o.data= .seq xs k) (hd:o.dict=none) (hA:A.handled=none)
  (h:∀h' tk,(∀b o,s.heap.get? b=some o→h'.get? b=some o)→Q none {s with heap:=h',toks:=tk}):wpAny (model prog w) A (getAttr? (.ref a) "keys") Q E s:=by
 obtain⟨hp,g,d,tk,os⟩:=s
 unfold getAttr? getAttrBy?
 have f1:=sub_AttributeError
 repeat (any_goals (first | assumption | ((with_reducible show wpAny _ _ (getAttrBy _ _ false) _ _ _);refine Zs5 hx hc hdat hd Ng (by decide+kernel) hA fun h' tk' e hx'=>?_;obtain⟨ob,vs,he,hcl,_,_⟩:=hx'.there;refine wpAny_bind (wpAny_isInstance (T:="AttributeError") ⟨ob,he,hcl⟩ f1 ?_);exact wpAny_pure (h h' tk' hx'.keeps)) | wp_step))
section
variable{prog:Program}{w:World}{A:Around}{E:Value→Shared→Prop}{R:Result→Shared→Prop}
theorem T8:entryFor table "dict.update.loop"=some Builtin.«dict.update.loop»:=entryFor_of_tree (by kernel_rfl)
theorem Xf:plainId "dict.update.loop"=true:=by decide+kernel
def Zr5{K:Type}[DecidableEq K](knd:KeyKind prog w K)(h:Heap)(v:Value)(p:K×Value):Prop:=∃t u,v= .ref t∧h.IsTuple t #[u,p.2]∧knd.is p.1 u=true
theorem Fu{K:Type}[DecidableEq K]{knd:KeyKind prog w K}{h:Heap}{d I l:Addr}{i:Nat}{kvs:List (K×Value)}(hd:h.DictOf knd d kvs)(hI:h.IsListIter I l i):d≠I:=by
 rintro rfl
 obtain⟨o,_,_,ho,_,hc,_⟩:=hd
 obtain⟨o2,ho2,_,hc2⟩:=hI
 rw[ho] at ho2
 cases ho2
 rw[hc] at hc2
 cases hc2
theorem Zp5{K:Type}[DecidableEq K]{knd:KeyKind prog w K}{l I d:Addr}{items:Array Value}{ps:List (K×Value)}(hh:A.in1.handled=none)(hsz:items.size<sizeLine)(hps:ps.length=items.size):
  ∀(k i:Nat) (s:Shared) (kvs:List (K×Value)) (t:Tok),items.size - i=k→i≤items.size→kvs.length≤i→
  s.heap.IsListIter I l i→s.heap.IsList l items→s.heap.DictOf knd d kvs→(∀(j:Nat) v p,items[j]?=some v→ps[j]?=some p→Zr5 knd s.heap v p)→
  (∀h' tk,h'.DictOf knd d ((ps.drop i).foldl (fun m p=>stored m p.1 p.2) kvs)→(∀b o,b≠I→b≠d→s.heap.get? b=some o→h'.get? b=some o)→R (.ok (.ret .none)) {s with heap:=h',toks:=tk})→
  codeAny (model prog w) A (.builtin "dict.update.loop" ⟨[.ref d,.ref I,.int i t,.none],[]⟩) R s:=by
 intro k
 induction k with
 | zero=>
  intro i s kvs t hk hi hkv hI hl hd hp q
  have hin:i=items.size:=by omega
  refine codeAny_builtin T8 ?_
  rw[Around.under_plainId Xf _]
  show wpAny _ A.in1 (pyNext (.ref I) >>=_) _ _ s
  refine wpAny_bind (wpAny_pyNext_list_end hh hI hl (by rw[hin];simp) fun h' he=>?_)
  show wpAny _ _ (Builtin.Dict.addKeywords d [] >>=_) _ _ _
  refine wpAny_bind (wpAny_pure (wpAny_pure ?_))
  have hdI:=Fu hd hI
  refine q h' _ ?_ fun b o h1 _ e=>he b o h1 e
  rw[List.drop_of_length_le (by omega)]
  exact hd.extBut he hdI
 | succ k ih=>
  intro i s kvs t hk hi hkv hI hl hd hp q
  have hlt:i<items.size:=by omega
  obtain⟨v,hv⟩:∃v,items[i]?=some v:=⟨_,Array.getElem?_eq_getElem hlt⟩
  obtain⟨p,hpi⟩:∃p,ps[i]?=some p:=⟨_,List.getElem?_eq_getElem (by omega)⟩
  refine codeAny_builtin T8 ?_
  rw[Around.under_plainId Xf _]
  show wpAny _ A.in1 (pyNext (.ref I) >>=_) _ _ s
  refine wpAny_bind (wpAny_pyNext_list_item hI hl hv fun h' hI' hs'=>?_)
  obtain⟨tt,u,rfl,htp,hku⟩:=hp i v p hv hpi
  have hdI:=Fu hd hI
  have keepI:∀b o,b≠I→s.heap.get? b=some o→h'.get? b=some o:=fun b o hb e=>(hs'.2 b hb).trans e
  have tI:tt≠I:=by
   rintro rfl
   obtain⟨o,ho,_,n,hc⟩:=htp
   obtain⟨o2,ho2,_,hc2⟩:=hI
   rw[ho] at ho2;cases ho2;rw[hc] at hc2;cases hc2
  have lI:l≠I:=by
   rintro rfl
   obtain⟨o,ho,_,n,hc⟩:=hl
   obtain⟨o2,ho2,_,hc2⟩:=hI
   rw[ho] at ho2;cases ho2;rw[hc] at hc2;cases hc2
  have nd:∀(b:Addr) (o:Obj) xs n,s.heap.get? b=some o→o.data= .seq xs n→b≠d∧b≠I:=by
   intro b o xs n ho hc
   constructor
   ·rintro rfl
    obtain⟨o2,_,_,ho2,_,hc2,_⟩:=hd
    rw[ho] at ho2;cases ho2;rw[hc] at hc2;cases hc2
   ·rintro rfl
    obtain⟨o2,ho2,_,hc2⟩:=hI
    rw[ho] at ho2;cases ho2;rw[hc] at hc2;cases hc2
  obtain⟨ot,hot,hct,nt,hdt⟩:=id htp
  show wpAny _ _ (holding [.ref tt] _ >>=_) _ _ _
  refine wpAny_bind (wpAny_holding (wpAny_bind (wpAny_tryCatch ?_)))
  unfold Builtin.Dict.pairItems
  refine wpAny_bind (wpAny_typeOf (T:="tuple") ⟨ot,keepI _ _ tI hot,hct⟩ ?_)
  rw[if_pos (by decide)]
  refine wpAny_bind (wpAny_seqItems (keepI _ _ tI hot) hdt ?_)
  refine wpAny_pure ?_
  show wpAny _ _ (holding [u,p.2] (dictSet d u p.2)) _ _ _
  have hd':h'.DictOf knd d kvs:=hd.extBut (fun b o hb e=>keepI b o hb e) hdI
  refine wpAny_holding (wpAny_dictSet_pairs hku hd' (fun h2 hd2 hs2=>?_) (by omega))
  refine wpAny_pure ⟨plainId_quiet Xf _,?_⟩
  have keep2:∀b o,b≠I→b≠d→s.heap.get? b=some o→h2.get? b=some o:=fun b o h1 h3 e=>(hs2.2 b h3).trans (keepI b o h1 e)
  have:=ih (i+1) {s with heap:=h2,toks:=s.toks+1} (stored kvs p.1 p.2) 0 (by omega) (by omega) ?_ ?_ ?_ hd2 ?_ ?_
  ·exact this
  ·unfold stored
   split
   ·rw[List.length_map];omega
   ·rw[List.length_append,List.length_singleton];omega
  ·obtain⟨o,ho,r⟩:=hI'
   exact⟨o,(hs2.2 I (Ne.symm hdI)).trans ho,r⟩
  ·obtain⟨o,ho,hc,n,r⟩:=hl
   exact⟨o,keep2 _ _ (nd _ _ _ _ ho r).2 (nd _ _ _ _ ho r).1 ho,hc,n,r⟩
  ·intro j v p' h1 h3
   obtain⟨t3,u3,e3,⟨o,ho,hc,n,r⟩,g3⟩:=hp j v p' h1 h3
   exact⟨t3,u3,e3,⟨o,keep2 _ _ (nd _ _ _ _ ho r).2 (nd _ _ _ _ ho r).1 ho,hc,n,r⟩,g3⟩
  ·intro h3 tk3 hd3 k3
   refine q h3 tk3 ?_ fun b o h1 h4 e=>k3 b o h1 h4 (keep2 b o h1 h4 e)
   rw[List.drop_eq_getElem_cons (by omega:i<ps.length)]
   rw[List.getElem?_eq_getElem (by omega)] at hpi
   cases hpi
   exact hd3
variable{s:Shared}
theorem Zn4{K:Type}[DecidableEq K]{knd:KeyKind prog w K}{l:Addr}{o:Obj}{n:Nat}{items:Array Value}{ps:List (K×Value)}{Q:Value→Shared→Prop}(hh:A.handled=none)
  (ho:s.heap.get? l=some o) (hc:o.cls= .type "list") (hdat:o.data= .seq items n) (hdi:o.dict=none) (hsz:items.size<sizeLine) (hps:ps.length=items.size)
  (hp:∀(j:Nat) v p,items[j]?=some v→ps[j]?=some p→Zr5 knd s.heap v p)
  (h:∀h' tk,h'.DictOf knd s.heap.objs.size (ps.foldl (fun m p=>stored m p.1 p.2) [])→(∀b o,s.heap.get? b=some o→h'.get? b=some o)→Q (.ref s.heap.objs.size) {s with heap:=h',toks:=tk}):
  wpAny (model prog w) A (call (.type "dict") [.ref l]) Q E s:=by
 refine callType_codes (Q₁:=fun obj s₁=>obj= .ref s.heap.objs.size∧s₁={s with heap:=s.heap.push {cls:= .type "dict",data:= .dict #[]}}) F.kt_called_dict (F.kt_typeCall_dict_1 _) F.entry_dict_init (kt_code_dict_new _ ⟨rfl,rfl⟩) ?_
 rintro obj s₁ ⟨rfl,rfl⟩
 have hnew:(s.heap.push {cls:= .type "dict",data:= .dict #[]}).DictOf knd s.heap.objs.size []:=Heap.DictOf.new s.heap
 refine⟨hnew.typeIs,F.args_dict_init_2 _ _,?_⟩
 unfold Builtin.«dict.__init__»
 refine wpAny_bind ?_
 unfold Builtin.Dict.selfAndRest
 refine wpAny_bind (wpAny_notOrdered_dict hnew.typeIs ?_)
 show wpAny _ _ (pure (s.heap.objs.size,[Value.ref l])) _ _ _
 refine wpAny_pure ?_
 show wpAny _ _ (Builtin.Dict.updateFrom "dict.__init__" s.heap.objs.size (.ref l) [] .none) _ _ _
 unfold Builtin.Dict.updateFrom
 have ho':(s.heap.push {cls:= .type "dict",data:= .dict #[]}).get? l=some o:=Heap.get?_push_of_some _ ho
 refine wpAny_bind (wpAny_typeOf (T:="list") ⟨o,ho',hc⟩ ?_)
 rw[if_pos (by decide)]
 refine wpAny_bind (Zw4 ho' hc hdat hdi (by first | exact hh | rfl) fun h1 tk1 k1=>?_)
 simp only[Option.isNone_none,if_true]
 have hl1:h1.IsList l items:=⟨o,k1 _ _ ho',hc,n,hdat⟩
 have hd1:h1.DictOf knd s.heap.objs.size []:=by
  obtain⟨q,es,ep,hq,r⟩:=hnew
  exact⟨q,es,ep,k1 _ _ hq,r⟩
 have old:∀b o,s.heap.get? b=some o→h1.get? b=some o:=fun b o e=>k1 b o (Heap.get?_push_of_some _ e)
 refine wpAny_bind (wpAny_rule ?_)
 refine wpAny_bind (wpAny_pyIter_list hl1 ?_)
 refine wpAny_pure ⟨plainId_quiet Xf _,?_⟩
 refine Zp5 (A:=A.in1) (knd:=knd) (ps:=ps) hh hsz hps _ 0 _ [] 0 rfl (Nat.zero_le _) (Nat.zero_le _) ⟨_,Heap.get?_push_size _ rfl,rfl,rfl⟩ (hl1.push _) (hd1.push _) ?_ ?_
 ·intro j v p h2 h3
  obtain⟨t,u,e,⟨q,hq,r⟩,g⟩:=hp j v p h2 h3
  exact⟨t,u,e,⟨q,Heap.get?_push_of_some _ (old _ _ hq),r⟩,g⟩
 ·intro h' tk hd' hk
  refine⟨rfl,h h' tk hd' fun b o e=>hk b o ?_ ?_ (Heap.get?_push_of_some _ (old _ _ e))⟩
  ·exact Nat.ne_of_lt (Heap.lt_size (old _ _ e))
  ·exact Nat.ne_of_lt (Heap.lt_size e)
end
end PySem
namespace L3
open PySem PySem.Spec PyProof.Rows L2
section
variable{X:Cx}{pins:List (Addr×Obj)}{σ:L2.St}{H:Hp}{s:Shared}
def Nm(K:PySem.W.Frag)(H:Hp):List V→List (Key×V)→Prop
 | [],[]=>True
 | v::r,p::q=>(∃t,v= .ref t∧SqT K H t [kV p.1,p.2])∧Nm K H r q
 | _,_=>False
theorem C3(I:Inv X pins σ H s):∀(vs:List V) (its:List Value) (ps:List (Key×V)),Vals vs its→Nm X.K H vs ps→∃ps',KV ps ps'∧ps'.length=its.length∧∀(j:Nat) v p,its[j]?=some v→ps'[j]?=some p→Zr5 (Y6 X.prog X.w) s.heap v p
 | [],its,ps,r,h=>by
  cases ps with
  | cons _ _=>exact h.elim
  | nil=>
   have:=r.length
   cases its with
   | cons _ _=>simp at this
   | nil=>exact⟨[],by constructor,rfl,fun j v p h=>by simp at h⟩
 | v::vs,its,ps,r,h=>by
  cases ps with
  | nil=>exact h.elim
  | cons p ps=>
   obtain⟨⟨t,rfl,ht⟩,h⟩:=h
   cases r with
   | @cons _ u _ its ru r=>
   cases (show u=Value.ref t from ru)
   obtain⟨w2,r2,ht2,_⟩:=I.tuple ht
   obtain⟨u1,u2,rfl,s1,s2⟩:=J7 r2
   obtain⟨ps',k1,k2,k3⟩:=C3 I vs its ps r h
   refine⟨(p.1,u2)::ps',.cons ⟨rfl,s2⟩ k1,by rw[List.length_cons,List.length_cons,k2],fun j v q h1 h2=>?_⟩
   cases j with
   | zero=>
    cases h1;cases h2
    exact⟨t,u1,rfl,ht2,J2 s1⟩
   | succ j=>exact k3 j v q h1 h2
theorem Z04:∀{ps:List (Key×V)} {ps':List (Key×Value)} {kvs:List (Key×V)} {vs:List (Key×Value)},KV ps ps'→KV kvs vs→KV (ps.foldl (fun m p=>putK m p.1 p.2) kvs) (ps'.foldl (fun m p=>stored m p.1 p.2) vs)
 | _,_,_,_,.nil,h=>h
 | _,_,_,_,.cons e r,h=>by
  rw[List.foldl_cons,List.foldl_cons]
  refine Z04 r ?_
  rw[e.1]
  exact h.put _ e.2
theorem Ey:∀(ps:List (Key×V)) (kvs:List (Key×V)),(ps.foldl (fun m p=>putK m p.1 p.2) kvs).length≤kvs.length+ps.length
 | [],kvs=>Nat.le_refl _
 | p::ps,kvs=>by
  rw[List.foldl_cons,List.length_cons]
  have:=Ey ps (putK kvs p.1 p.2)
  have:=Wc kvs p.1 p.2
  omega
theorem Jj{K:PySem.W.Frag}:∀{vs:List V} {ps:List (Key×V)},Nm K H vs ps→vs.length=ps.length
 | [],[],_=>rfl
 | _::_,_::_,h=>by rw[List.length_cons,List.length_cons,Jj h.2]
theorem Cq(hc:X.calm=true):Vq X (.type "dict") (fun xs H Q=>∃(a:Addr) (vs:List V) (ps:List (Key×V)),xs=[V.ref a]∧SqL X.K H a vs∧Nm X.K H vs ps∧vs.length<sizeLine∧
  ∀p,H p=none→Q (.ref p) (upd H p (.dK (ps.foldl (fun m p=>putK m p.1 p.2) [])))):=by
 intro pins s σ H xs us Q I r h
 obtain⟨a,vs,ps,rfl,hx,hp,hz,q⟩:=h
 obtain⟨u,rfl,ru⟩:=Nc r
 cases ru
 obtain⟨its,rv,⟨o,n,ho,h1,h2,h3⟩,_⟩:=I.list hx
 obtain⟨ps',k1,k2,k3⟩:=C3 I vs its ps rv hp
 have hl:=rv.length
 have hl2:=Jj hp
 refine Zn4 (knd:=Y6 X.prog X.w) (ps:=ps') (I.ok.hd hc) ho h1 h3 h2 (by rw[List.size_toArray];omega) (by rw[List.size_toArray];exact k2) (fun j v p e1 e2=>k3 j v p (by simpa using e1) e2) fun h' tk dd keep=>?_
 have lf:=Ey ps []
 refine⟨.ref _,_,I.laid (a:=s.heap.objs.size) (o:= .dK (ps.foldl (fun m p=>putK m p.1 p.2) [])) (t':=tk) keep (Nat.le_refl _) (El (by rw[List.length_nil] at lf;omega) (beq_eq_false_iff_ne.mpr (Ne.symm (Nat.ne_of_lt I.big))) (Z04 k1 .nil) dd),rfl,q _ (I.hok.fresh (Nat.le_refl _))⟩
end
noncomputable def Itd(a:Addr)(o:Obj):It:=⟨fun i H=>∃kvs p,H a=some (.frz o (.dK kvs))∧kvs[i]?=some p,fun i H x H'=>H'=H∧∀kvs,H a=some (.frz o (.dK kvs))→∃p,kvs[i]?=some p∧x=kV p.1,fun i H=>∃kvs,H a=some (.frz o (.dK kvs))∧kvs.length≤i⟩
theorem Za5{P:Program}{w:World}{H:Hp}{h:Heap}{a:Addr}{o:Obj}{kvs:List (Key×V)}{es:Array DictEntry}{ep:Nat}(x:Yu P w H h a (.frz o (.dK kvs)))(hd:o.data= .dict es ep):
  ∃vs,KV kvs vs∧h.DictAt (Y6 P w) a vs ep∧vs.length=es.size:=by
 obtain⟨e,_,_,vs,rel,o',es',ep',e',h1,h2,h3,h4,h5⟩:=x
 rw[e] at e'
 cases e'
 rw[hd] at h2
 cases h2
 refine⟨vs,rel,⟨o,es,e,h1,hd,h3,h4,h5⟩,?_⟩
 have:=h4.length
 simpa using this.symm
theorem Y87{P:Program}{w:World}{k:Key}{u:Value}(h:(Y6 P w).is k u=true):L2.RelV (kV k) u:=by
 rcases Ye h with⟨i,t,rfl,rfl⟩ | ⟨x,t,rfl,rfl⟩
 ·exact⟨t,rfl⟩
 ·exact⟨t,rfl⟩
theorem Y62{kvs:List (Key×V)}{vs:List (Key×Value)}(r:KV kvs vs):∀{i:Nat} {p:Key×V},kvs[i]?=some p→∃u,vs[i]?=some (p.1,u)∧L2.RelV p.2 u:=by
 unfold KV at r
 induction r with
 | nil=>intro i p e;simp at e
 | @cons p q ps qs h t ih=>
  intro i p e
  cases i with
  | zero=>
   cases e
   exact⟨q.2,by rw[h.1];rfl,h.2⟩
  | succ i=>exact ih (by simpa using e)
theorem Z69{P:Program}{w:World}{K:PySem.W.Frag}{tg:Expr}(a it:Addr){o:Obj}{es:Array DictEntry}{ep:Nat}(hd:o.data= .dict es ep):Turn P w K tg (Itd a o) [it] it (fun i h=>h.IsKeyIter it a i es.size ep) where
 mem:=by simp
 obj:=fun i h st b hb=>by
  have e:b=it:=by simpa using hb
  subst e
  obtain⟨o,e,c,d⟩:=st
  exact⟨o,e,fun v z=>by rw[d] at z;cases z⟩
 keep:=fun i h h' st k=>st.at fun o e=>k it (by simp) o e
 item:=by
  intro X hP hw hK hc i pins s σ H E I hf st hg
  subst hP hw hK
  obtain⟨kvs,p,hq,hx⟩:=hg
  obtain⟨vs,rel,dd,hl⟩:=Za5 (I.hok a _ hq) hd
  obtain⟨q,hx2,e2⟩:=Y62 rel hx
  obtain⟨f0,f1,f2,f3,f4,f5⟩:=hf it (by simp)
  rw[←hl] at st
  refine wpAny_pyNext_dict_item st dd hx2 fun key h' hkey st' sb=>?_
  have I1:Inv X pins σ H {s with heap:=h'}:=I.turned (t':=s.toks) (fun b o hb e=>(sb.2 b hb).trans e) f0 f1 f3 f4 f5
  obtain⟨ob,e,c,d⟩:=id st'
  rw[hl] at st'
  exact⟨key,rfl,Zc2 (s:={s with heap:=h'}) e c d (by decide) ⟨kV p.1,H,I1,Y87 hkey,⟨rfl,fun ys hy=>by rw[hq] at hy;cases hy;exact⟨p,hx,rfl⟩⟩,st',fun b hb=>(hf b hb).1⟩⟩
 done:=by
  intro X hP hw hK hc i pins s σ H E I hf st hg
  subst hP hw hK
  obtain⟨kvs,hq,hx⟩:=hg
  obtain⟨vs,rel,dd,hl⟩:=Za5 (I.hok a _ hq) hd
  obtain⟨f0,f1,f2,f3,f4,f5⟩:=hf it (by simp)
  have hl2:=rel.length
  rw[←hl] at st
  exact wpAny_pyNext_dict_end (I.ok.hd hc) st dd (by simp;omega) fun h' eb=>⟨rfl,I.turned (t':=s.toks) (fun b o hb e=>eb b o hb e) f0 f1 f3 f4 f5⟩
 self:=fun _ _ _ _ _ st h=>wpAny_pyIter_keyiter st h
section
variable{X:Cx}{pins:List (Addr×Obj)}{σ:L2.St}{H:Hp}{s:Shared}{a:Addr}
theorem Zj9{kvs:List (Key×V)}(I:Inv X pins σ H s)(e:H a=some (.dK kvs)):
  ∃o es ep,o.data= .dict es ep∧s.heap.get? a=some o∧Inv X pins σ (upd H a (.frz o (.dK kvs))) s∧(∀o u,X.H₀ a≠some (.frz o u)):=by
 obtain⟨z,hd,vs,rel,dd⟩:=Bd I.hok e
 obtain⟨o,es,ep,ho,h1,h2,h3⟩:=id dd
 refine⟨o,es,ep,h2,ho,?_,fun o' u q=>?_⟩
 ·exact I.write (x:=a) (e:=a) (o:= .frz o (.dK kvs)) (h':=s.heap) (t':=s.toks) (by rw[e];exact True.intro) (.inl rfl) (fun b q _ r=>r) ⟨o,ho⟩ ⟨ho,z,hd,vs,rel,dd⟩
 ·have:=I.base.frzs a o' u q
  rw[e] at this
  cases this
theorem Zl8{kvs:List (Key×V)}{o:Obj}(I:Inv X pins σ H s)(e:H a=some (.frz o (.dK kvs)))(nf:∀o u,X.H₀ a≠some (.frz o u)):Inv X pins σ (upd H a (.dK kvs)) s where
 ok:=I.ok
 os:=I.os
 bare:=I.bare
 base:=by
  have ne:∀b,H b=none→b≠a:=fun b n z=>by subst z;rw[e] at n;cases n
  refine⟨I.base.keep,I.base.slot,fun b q h n hx=>?_,I.base.there,fun b xs h=>?_,fun b q u h=>?_,fun b ps h=>?_⟩
  ·have:=I.base.free b q h n hx
   rw[Z9 (ne b this)];exact this
  ·have:=I.base.tups b xs h
   rw[Z9 (fun z=>by subst z;rw[e] at this;cases this)];exact this
  ·have:=I.base.frzs b q u h
   rw[Z9 (fun z=>by subst z;exact nf q u h)];exact this
  ·obtain⟨m,this⟩:=I.base.tbls b ps h
   exact⟨m,by rw[Z9 (fun z=>by subst z;rw[e] at this;cases this)];exact this⟩
 loc:=I.loc
 cell:=I.cell
 free:=by rw[Z9 (fun z=>by have:=I.free;rw[z,e] at this;cases this)];exact I.free
 freeC:=fun x c h=>by
  have:=I.freeC x c h
  rw[Z9 (fun z=>by subst z;rw[e] at this;cases this)];exact this
 pin:=fun p hp=>by
  obtain⟨h1,h2,h3⟩:=I.pin p hp
  exact⟨h1,by rw[Z9 (fun z=>by rw[z,e] at h2;cases h2)];exact h2,h3⟩
 hok:=by
  intro b u h
  by_cases hb:b=a
  ·subst hb
   rw[Zv] at h
   cases h
   obtain⟨_,q⟩:=I.hok b _ e
   exact q
  ·rw[Z9 hb] at h
   refine(I.hok b u h).stay (fun c v _ r=>r) (fun c r=>?_) fun c xs r=>?_
   ·rw[Z9 (fun z=>by subst z;rw[e] at r;cases r)];exact r
   ·rw[Z9 (fun z=>by subst z;rw[e] at r;cases r)];exact r
 len:=I.len
end
section
variable{X:Cx}
theorem Za7{pins:List (Addr×Obj)}{σ:L2.St}{H:Hp}{s:Shared}{h':Heap}{t':Nat}{ch:List Addr}(I:Inv X pins σ H s)(k:∀c o,c∉ch→s.heap.get? c=some o→h'.get? c=some o)(f:∀b∈ch,FpOk X pins H b):Inv X pins σ H {s with heap:=h',toks:=t'}:=by
 have nn:∀c u,H c=some u→c∉ch:=by
  intro c u e z
  rw[(f c z).1] at e
  cases e
 refine I.step (ch:=ch) (g':=s.gens) (d':=s.drawn) ?_ ?_ ?_ ?_ ?_ ?_ ?_ ?_ ?_ ?_ I.bare
 ·intro c hc
  exact⟨(f c hc).2.2.2.1,(f c hc).2.1,(f c hc).2.2.2.2.1,(f c hc).2.2.2.2.2⟩
 ·intro c o _ _ hc e _;exact k c o hc e
 ·intro c o _ _ hc e _;exact⟨o.slots,k c o hc e⟩
 ·intro _ _ _ _ n;exact n
 ·intro c o hc e;exact⟨o,k c o hc e⟩
 ·intro _ _ e;exact e
 ·intro _ _ _ e;exact e
 ·intro c ps e;exact⟨#[],by rw[e];simp⟩
 ·rintro m ⟨o,es,ep,ho,r⟩
  exact⟨o,es,ep,k _ o (fun z=>(f _ z).2.1 rfl) ho,r⟩
 ·intro c u e
  refine(I.hok c u e).stay ?_ (fun _ q=>q) fun _ _ q=>q
  intro d v hd q
  rcases hd with z | z
  ·subst z;exact k d v (nn d u e) q
  ·exact k d v (nn d _ z) q
noncomputable def Itz(K:PySem.W.Frag)(a b:Addr):It:=
 ⟨fun i H=>∃xs ys x y,SqL K H a xs∧SqL K H b ys∧xs[i]?=some x∧ys[i]?=some y,
  fun i H x H'=>∃p u v,H p=none∧H'=upd H p (.tup [u,v])∧x= .ref p∧(∀xs,SqL K H a xs→xs[i]?=some u)∧∀ys,SqL K H b ys→ys[i]?=some v,
  fun i H=>∃xs ys,SqL K H a xs∧SqL K H b ys∧(xs.length≤i∨ys.length≤i)⟩
theorem Zc6{P:Program}{w:World}{K:PySem.W.Frag}{elts:List Expr}{x1:Nat}{tp:Pos}(z TI TO i1 i2 a b:Addr)(D:ZipApart z TI TO i1 i2 a b):
  Turn P w K (.Tuple elts x1 tp) (Itz K a b) [z,TI,TO,i1,i2] z (fun i h=>IsZip h z TI TO .none∧IsPair h TI (.ref i1) (.ref i2)∧(∃u v,IsPair h TO u v)∧h.IsListIter i1 a i∧h.IsListIter i2 b i) where
 mem:=by simp
 obj:=by
  rintro i h ⟨hz,hTI,⟨u,v,hTO⟩,⟨o1,e1,_,d1⟩,⟨o2,e2,_,d2⟩⟩ c hc
  simp only[List.mem_cons,List.not_mem_nil,or_false] at hc
  rcases hc with rfl | rfl | rfl | rfl | rfl
  ·exact⟨_,hz,fun v q=>by cases q⟩
  ·exact⟨_,hTI,fun v q=>by cases q⟩
  ·exact⟨_,hTO,fun v q=>by cases q⟩
  ·exact⟨_,e1,fun v q=>by rw[d1] at q;cases q⟩
  ·exact⟨_,e2,fun v q=>by rw[d2] at q;cases q⟩
 keep:=by
  rintro i h h' ⟨hz,hTI,⟨u,v,hTO⟩,h1,h2⟩ k
  exact⟨k z (by simp) _ hz,k TI (by simp) _ hTI,⟨u,v,k TO (by simp) _ hTO⟩,h1.at fun o q=>k i1 (by simp) o q,h2.at fun o q=>k i2 (by simp) o q⟩
 item:=by
  rintro X rfl rfl rfl hc i pins s σ H E I hf ⟨hz,hTI,⟨u0,v0,hTO⟩,h1,h2⟩ ⟨xs,ys,x,y,hq,hr,hx,hy⟩
  obtain⟨its,rv,p,_⟩:=I.list hq
  obtain⟨jts,rw2,p2,_⟩:=I.list hr
  obtain⟨u,hu,ru⟩:=rv.get hx
  obtain⟨v,hv,rv2⟩:=rw2.get hy
  have lt:∀c∈[z,TI,TO,i1,i2],@LT.lt Nat _ c s.heap.objs.size:=by
   intro c hc
   simp only[List.mem_cons,List.not_mem_nil,or_false] at hc
   obtain⟨o1,e1,_⟩:=id h1
   obtain⟨o2,e2,_⟩:=id h2
   rcases hc with rfl | rfl | rfl | rfl | rfl
   ·exact Heap.lt_size hz
   ·exact Heap.lt_size hTI
   ·exact Heap.lt_size hTO
   ·exact Heap.lt_size e1
   ·exact Heap.lt_size e2
  refine wpAny_pyNext_zip_item D hz hTI hTO h1 h2 p.isList p2.isList (x:=u) (y:=v) (by simpa using hu) (by simpa using hv) fun hh ho hTO2 g1 g2 hT hsz hk=>?_
  refine⟨_,rfl,wpAny_letOwnedTupleGo_zip ho fun h3 hz3 hs3=>?_⟩
  replace hs3:Heap.SameBut z hh h3:=hs3
  have nz:s.heap.objs.size≠z:=Nat.ne_of_gt (lt z (by simp))
  have hT3:h3.get? s.heap.objs.size=some {cls:= .type "tuple",data:= .seq #[u,v]}:=(hs3.2 _ nz).trans hT
  have hn:H s.heap.objs.size=none:=I.hok.fresh (Nat.le_refl _)
  have I1:Inv X pins σ (upd H s.heap.objs.size (.tup [x,y])) {s with heap:=s.heap.push {cls:= .type "tuple",data:= .seq #[u,v]},toks:=s.toks}:=
   I.laid (fun b ob q=>Heap.get?_push_of_some _ q) (Nat.le_refl _) ⟨show 2≤sizeLine by rw[sizeLine_eq];omega,[u,v],.cons ru (.cons rv2 .nil),⟨_,Heap.get?_push_size _ rfl,rfl,_,rfl⟩⟩
  have up:∀c∈[z,TI,TO,i1,i2],FpOk X pins (upd H s.heap.objs.size (.tup [x,y])) c:=by
   intro c hc
   refine⟨?_,(hf c hc).2⟩
   rw[Z9 (Nat.ne_of_lt (lt c hc))]
   exact(hf c hc).1
  have I2:=Za7 (h':=h3) (t':=s.toks) I1 (fun c o hc e'=>by
   simp only[List.mem_cons,List.not_mem_nil,or_false,not_or] at hc
   rcases O4 e' with q | q
   ·exact(hs3.2 c hc.1).trans (hk c o hc.1 hc.2.2.1 hc.2.2.2.1 hc.2.2.2.2 q)
   ·subst q
    have z2:(s.heap.push {cls:= .type "tuple",data:= .seq #[u,v]}).get? s.heap.objs.size=some o:=e'
    rw[Heap.get?_push_size _ rfl] at z2
    cases z2
    exact hT3) up
  refine⟨.ref s.heap.objs.size,_,I2,rfl,⟨_,x,y,hn,rfl,rfl,fun zs hs=>by rw[I.list_inj hs hq];exact hx,fun zs hs=>by rw[I.list_inj hs hr];exact hy⟩,
   ⟨hz3,(hs3.2 TI D.TIz).trans (hk TI _ D.TIz D.TITO D.TIi1 D.TIi2 hTI),⟨_,_,(hs3.2 TO D.TOz).trans hTO2⟩,g1.at fun o q=>(hs3.2 i1 D.i1z).trans q,g2.at fun o q=>(hs3.2 i2 D.i2z).trans q⟩,fun c hc=>(up c hc).1⟩
 done:=by
  rintro X rfl rfl rfl hc i pins s σ H E I hf ⟨hz,hTI,⟨u0,v0,hTO⟩,h1,h2⟩ ⟨xs,ys,hq,hr,hl⟩
  obtain⟨its,rv,p,_⟩:=I.list hq
  obtain⟨jts,rw2,p2,_⟩:=I.list hr
  have l1:=rv.length
  have l2:=rw2.length
  refine wpAny_pyNext_zip_end (I.ok.hd hc) D hz hTI hTO h1 h2 p.isList p2.isList ?_ fun h' eb=>⟨rfl,Za7 (t':=s.toks) I (ch:=[z,TI,TO,i1,i2]) (fun c o hc e=>?_) hf⟩
  ·rcases hl with hl | hl
   ·exact .inl (by simp;omega)
   ·exact .inr (by simp;omega)
  ·simp only[List.mem_cons,List.not_mem_nil,or_false,not_or] at hc
   exact eb c o hc.1 hc.2.2.1 hc.2.2.2.1 hc.2.2.2.2 e
 self:=by
  rintro A i s Q E ⟨hz,_⟩ h
  exact wpAny_pyIter_zip hz h
def iZip(K:PySem.W.Frag)(ta:TA):TI:=fun σ H R=>ta σ H fun vs H1=>∃a b,vs=[V.ref a,V.ref b]∧(∃xs,SqL K H1 a xs)∧(∃ys,SqL K H1 b ys)∧R (Itz K a b) H1
theorem Zx3{elts:List Expr}{x1:Nat}{tp:Pos}{l:Expr}{ls:List Expr}{ta:TA}{p pos:Pos}(hg:Gl X "zip")(hm:X.mg "zip"=none)(ha:PA X (l::ls) ta)(he:starEach (l::ls) X.env=(false,eval l X.env)::starEach ls X.env)(hpl:(backTo pos (starEach ls X.env)).any (·.1)=false):
  PI X (.Tuple elts x1 tp) (.Call (.Name "zip" p) (l::ls) [] pos) (iZip X.K ta):=by
 intro pins s σ H R I h
 refine wpAny_Call_Name_kw (Q3 I hg hm (u:= .type "zip") (by kernel_rfl) ?_)
 refine PyProof.Rows.callWith_type1 (thn (ha pos pins s σ H _ I h) fun us s1 zz70=>?_) he hpl
 obtain⟨vs,H1,I1,rv,a,b,ev,⟨xs,hp⟩,⟨ys,hq⟩,q⟩:=zz70
 subst ev
 obtain⟨u1,u2,rfl,e1,e2⟩:=J7 rv
 cases e1
 cases e2
 obtain⟨us,r1,pl1,z1⟩:=I1.list hp
 obtain⟨ws,r2,pl2,z2⟩:=I1.list hq
 have L1:=pl1.isList
 have L2:=pl2.isList
 have lt1:@LT.lt Nat _ a s1.heap.objs.size:=by obtain⟨o,e,_⟩:=L1;exact Heap.lt_size e
 have lt2:@LT.lt Nat _ b s1.heap.objs.size:=by obtain⟨o,e,_⟩:=L2;exact Heap.lt_size e
 refine call_zip_2 L1 L2 fun h' a1 a2 a3 a4 a5 a6 kp=>wpAny_pyIter_zip a1 ?_
 have D:ZipApart (s1.heap.objs.size+4) (s1.heap.objs.size+2) (s1.heap.objs.size+3) s1.heap.objs.size (s1.heap.objs.size+1) a b:=by
  constructor<;>(show(_:Nat)≠_)<;>omega
 refine⟨s1.heap.objs.size+4,[s1.heap.objs.size+4,s1.heap.objs.size+2,s1.heap.objs.size+3,s1.heap.objs.size,s1.heap.objs.size+1],_,_,H1,rfl,I1.kept (t':=s1.toks) kp,Zc6 _ _ _ _ _ a b D,⟨a1,a2,⟨_,_,a3⟩,a4,a5⟩,fun c hc=>?_,q⟩
 have hb:@LE.le Nat _ s1.heap.objs.size c:=by
  simp only[List.mem_cons,List.not_mem_nil,or_false] at hc
  rcases hc with rfl | rfl | rfl | rfl | rfl
  ·exact Nat.le_add_right _ _
  ·exact Nat.le_add_right _ _
  ·exact Nat.le_add_right _ _
  ·exact Nat.le_refl _
  ·exact Nat.le_add_right _ _
 exact I1.fpOk hb (I1.hok.fresh hb)
end
end L3
namespace U
open PySem PySem.Spec PyProof.Rows L2 L3
inductive D where
 | non | bl (b:Bool) | int (i:Int) | str (x:Str) | tup (ds:List D) | ref (n:Nat) | ty (n:String) | gtup (ds:List D) | cls (a:Addr) | exn (e C dx:Addr) (row:D)
inductive Cell where
 | lst (ds:List D) | frz (ds:List D) | dct (kvs:List (Key×D)) | fdc (kvs:List (Key×D))
noncomputable abbrev Z1:=List Cell
noncomputable abbrev DEnv:=List (Option D)
abbrev DK:=D→Z1→Prop
abbrev DX:=Addr→D→Z1→Prop
abbrev DE:=DEnv→Z1→DK→Prop
abbrev DA:=DEnv→Z1→(List D→Z1→Prop)→Prop
abbrev DT:=DEnv→Z1→(Bool→Z1→Prop)→Prop
abbrev DSp:=List D→Z1→DK→DX→Prop
structure DEnds where
 nx:DEnv→Z1→Prop
 rt:DK
 bk:DEnv→Z1→Prop:=fun _ _=>False
 ct:DEnv→Z1→Prop:=fun _ _=>False
abbrev DS:=DEnds→DEnv→Z1→Prop
structure Vw where
 K:PySem.W.Frag
 H:Hp
 μ:Nat→Addr
 n:Nat
mutual
def RD(w:Vw):D→V→Prop
 | .non,v=>v= .non
 | .bl b,v=>v= .bl b
 | .int i,v=>v= .int i
 | .str x,v=>v= .str x
 | .tup ds,v=>∃a vs,v= .ref a∧w.H a=some (.tup vs)∧RDs w ds vs
 | .ref i,v=>i<w.n∧v= .ref (w.μ i)
 | .ty n,v=>v= .ty n
 | .gtup ds,v=>∃a vs,v= .ref a∧SqT w.K w.H a vs∧RDs w ds vs
 | .cls a,v=>v= .ref a
 | .exn e C dx row,v=>v= .ref e∧w.H e=some (XO e (.ref C) (some dx))∧∃r,w.H dx=some (.xd [("row",r)])∧RD w row r
def RDs(w:Vw):List D→List V→Prop
 | [],vs=>vs=[]
 | d::ds,vs=>∃v r,vs=v::r∧RD w d v∧RDs w ds r
end
def RKV(w:Vw):List (Key×D)→List (Key×V)→Prop
 | [],vs=>vs=[]
 |(k,d)::ds,vs=>∃v r,vs=(k,v)::r∧RD w d v∧RKV w ds r
def SqF(K:PySem.W.Frag)(H:Hp)(a:Addr)(vs:List V):Prop:=(∃o,H a=some (.frz o (.lst vs)))∨SqL K (fun _=>none) a vs
noncomputable def Cell.mut:Cell→Bool
 | .frz _=>false
 | _=>true
def Oq(w:Vw):Cell→Addr→Prop
 | .lst ds,a=>∃vs,w.H a=some (.lst vs)∧RDs w ds vs
 | .frz ds,a=>∃vs,SqF w.K w.H a vs∧RDs w ds vs
 | .dct kvs,a=>∃vs,w.H a=some (.dK vs)∧RKV w kvs vs
 | .fdc kvs,a=>∃o vs,w.H a=some (.frz o (.dK vs))∧RKV w kvs vs
structure RS(w:Vw)(M:Z1):Prop where
 len:w.n=M.length
 inj:∀(i j:Nat) (ci cj:Cell),M[i]?=some ci→M[j]?=some cj→ci.mut=true→cj.mut=true→w.μ i=w.μ j→i=j
 cell:∀i c,M[i]?=some c→Oq w c (w.μ i)
noncomputable def Imm:HO→Bool
 | .tup _ | .xd _ | .ext _ | .frz _ _=>true
 | _=>false
structure Ext(w w':Vw):Prop where
 K:w'.K=w.K
 n:w.n≤w'.n
 μ:∀i,i<w.n→w'.μ i=w.μ i
 imm:∀a o,w.H a=some o→Imm o=true→w'.H a=some o
theorem Ext.refl(w:Vw):Ext w w:=⟨rfl,Nat.le_refl _,fun _ _=>rfl,fun _ _ h _=>h⟩
theorem Ext.trans{a b c:Vw}(x:Ext a b)(y:Ext b c):Ext a c:=
 ⟨y.K.trans x.K,Nat.le_trans x.n y.n,fun i h=>(y.μ i (Nat.lt_of_lt_of_le h x.n)).trans (x.μ i h),fun p o h q=>y.imm p o (x.imm p o h q) q⟩
theorem Ext.sqT{w w':Vw}(x:Ext w w'){a:Addr}{vs:List V}(h:SqT w.K w.H a vs):SqT w'.K w'.H a vs:=by
 rw[x.K]
 rcases h with(h | ⟨o,h⟩) | h
 ·exact .inl (.inl (x.imm _ _ h rfl))
 ·exact .inl (.inr ⟨o,x.imm _ _ h rfl⟩)
 ·exact .inr h
mutual
theorem RD.ext{w w':Vw}(x:Ext w w'):∀{d:D} {v:V},RD w d v→RD w' d v
 | .non,v,h=>by unfold RD at *;exact h
 | .bl b,v,h=>by unfold RD at *;exact h
 | .int i,v,h=>by unfold RD at *;exact h
 | .str _,v,h=>by unfold RD at *;exact h
 | .tup ds,v,h=>by
  unfold RD at *
  obtain⟨a,vs,e,q,r⟩:=h
  exact⟨a,vs,e,x.imm _ _ q rfl,RDs.ext x r⟩
 | .ref i,v,h=>by
  unfold RD at *
  exact⟨Nat.lt_of_lt_of_le h.1 x.n,by rw[x.μ i h.1];exact h.2⟩
 | .ty n,v,h=>by unfold RD at *;exact h
 | .gtup ds,v,h=>by
  unfold RD at *
  obtain⟨a,vs,e,q,r⟩:=h
  exact⟨a,vs,e,x.sqT q,RDs.ext x r⟩
 | .cls a,v,h=>by unfold RD at *;exact h
 | .exn e C dx row,v,h=>by
  unfold RD at *
  obtain⟨e1,q,r,q2,q3⟩:=h
  exact⟨e1,x.imm _ _ q rfl,r,x.imm _ _ q2 rfl,RD.ext x q3⟩
theorem RDs.ext{w w':Vw}(x:Ext w w'):∀{ds:List D} {vs:List V},RDs w ds vs→RDs w' ds vs
 | [],vs,h=>by unfold RDs at *;exact h
 | d::ds,vs,h=>by
  unfold RDs at *
  obtain⟨v,r,e,h1,h2⟩:=h
  exact⟨v,r,e,RD.ext x h1,RDs.ext x h2⟩
end
theorem RKV.ext{w w':Vw}(x:Ext w w'):∀{ds:List (Key×D)} {vs:List (Key×V)},RKV w ds vs→RKV w' ds vs
 | [],vs,h=>by unfold RKV at *;exact h
 |(k,d)::ds,vs,h=>by
  unfold RKV at *
  obtain⟨v,r,e,h1,h2⟩:=h
  exact⟨v,r,e,RD.ext x h1,RKV.ext x h2⟩
structure Ext0(w w':Vw):Prop where
 K:w'.K=w.K
 n:w.n≤w'.n
 μ:∀i,i<w.n→w'.μ i=w.μ i
 imm:∀a o,w.H a=some o→Imm o=true→(∀ob kvs,o≠ .frz ob (.dK kvs))→w'.H a=some o
mutual
theorem RD.ext0{w w':Vw}(x:Ext0 w w'):∀{d:D} {v:V},RD w d v→RD w' d v
 | .non,v,h=>by unfold RD at *;exact h
 | .bl b,v,h=>by unfold RD at *;exact h
 | .int i,v,h=>by unfold RD at *;exact h
 | .str _,v,h=>by unfold RD at *;exact h
 | .tup ds,v,h=>by
  unfold RD at *
  obtain⟨a,vs,e,q,r⟩:=h
  exact⟨a,vs,e,x.imm _ _ q rfl (fun _ _ z=>by cases z),RDs.ext0 x r⟩
 | .ref i,v,h=>by
  unfold RD at *
  exact⟨Nat.lt_of_lt_of_le h.1 x.n,by rw[x.μ i h.1];exact h.2⟩
 | .ty n,v,h=>by unfold RD at *;exact h
 | .gtup ds,v,h=>by
  unfold RD at *
  obtain⟨a,vs,e,q,r⟩:=h
  refine⟨a,vs,e,?_,RDs.ext0 x r⟩
  rw[x.K]
  rcases q with(h | ⟨o,h⟩) | h
  ·exact .inl (.inl (x.imm _ _ h rfl (fun _ _ z=>by cases z)))
  ·exact .inl (.inr ⟨o,x.imm _ _ h rfl (fun _ _ z=>by cases z)⟩)
  ·exact .inr h
 | .cls a,v,h=>by unfold RD at *;exact h
 | .exn e C dx row,v,h=>by
  unfold RD at *
  obtain⟨e1,q,r,q2,q3⟩:=h
  exact⟨e1,x.imm _ _ q rfl (fun _ _ z=>by cases z),r,x.imm _ _ q2 rfl (fun _ _ z=>by cases z),RD.ext0 x q3⟩
theorem RDs.ext0{w w':Vw}(x:Ext0 w w'):∀{ds:List D} {vs:List V},RDs w ds vs→RDs w' ds vs
 | [],vs,h=>by unfold RDs at *;exact h
 | d::ds,vs,h=>by
  unfold RDs at *
  obtain⟨v,r,e,h1,h2⟩:=h
  exact⟨v,r,e,RD.ext0 x h1,RDs.ext0 x h2⟩
end
theorem RKV.ext0{w w':Vw}(x:Ext0 w w'):∀{ds:List (Key×D)} {vs:List (Key×V)},RKV w ds vs→RKV w' ds vs
 | [],vs,h=>by unfold RKV at *;exact h
 |(k,d)::ds,vs,h=>by
  unfold RKV at *
  obtain⟨v,r,e,h1,h2⟩:=h
  exact⟨v,r,e,RD.ext0 x h1,RKV.ext0 x h2⟩
theorem RDs.nil(w:Vw):RDs w [] []:=by unfold RDs;rfl
theorem RDs.cons{w:Vw}{d:D}{v:V}{ds:List D}{vs:List V}(h:RD w d v)(r:RDs w ds vs):RDs w (d::ds) (v::vs):=by unfold RDs;exact⟨v,vs,rfl,h,r⟩
theorem RDs.length{w:Vw}:∀{ds:List D} {vs:List V},RDs w ds vs→vs.length=ds.length
 | [],vs,h=>by unfold RDs at h;subst h;rfl
 | d::ds,vs,h=>by
  unfold RDs at h
  obtain⟨v,r,rfl,_,h2⟩:=h
  simp[h2.length]
theorem RDs.get{w:Vw}:∀{ds:List D} {vs:List V} {i:Nat} {d:D},RDs w ds vs→ds[i]?=some d→∃v,vs[i]?=some v∧RD w d v
 | [],vs,i,d,h,e=>by simp at e
 | d::ds,vs,i,d',h,e=>by
  unfold RDs at h
  obtain⟨v,r,rfl,h1,h2⟩:=h
  cases i with
  | zero=>simp at e;subst e;exact⟨v,rfl,h1⟩
  | succ i=>simpa using RDs.get h2 (by simpa using e)
theorem RDs.append{w:Vw}:∀{ds es:List D} {vs us:List V},RDs w ds vs→RDs w es us→RDs w (ds++es) (vs++us)
 | [],es,vs,us,h,g=>by unfold RDs at h;subst h;exact g
 | d::ds,es,vs,us,h,g=>by
  unfold RDs at h
  obtain⟨v,r,rfl,h1,h2⟩:=h
  exact RDs.cons h1 (RDs.append h2 g)
theorem RDs.take{w:Vw}:∀{ds:List D} {vs:List V} (n:Nat),RDs w ds vs→RDs w (ds.take n) (vs.take n)
 | _,_,0,_=>by simp[RDs.nil]
 | [],vs,n+1,h=>by unfold RDs at h;subst h;simp[RDs.nil]
 | d::ds,vs,n+1,h=>by
  unfold RDs at h
  obtain⟨v,r,rfl,h1,h2⟩:=h
  exact RDs.cons h1 (RDs.take n h2)
theorem RDs.drop{w:Vw}:∀{ds:List D} {vs:List V} (n:Nat),RDs w ds vs→RDs w (ds.drop n) (vs.drop n)
 | _,_,0,h=>by simpa using h
 | [],vs,n+1,h=>by unfold RDs at h;subst h;simp[RDs.nil]
 | d::ds,vs,n+1,h=>by
  unfold RDs at h
  obtain⟨v,r,rfl,h1,h2⟩:=h
  simpa using RDs.drop n h2
theorem RDs.set{w:Vw}{d:D}{v:V}(q:RD w d v):∀{ds:List D} {vs:List V} (n:Nat),RDs w ds vs→RDs w (ds.set n d) (vs.set n v)
 | [],vs,n,h=>by unfold RDs at h;subst h;simp[RDs.nil]
 | d::ds,vs,0,h=>by
  unfold RDs at h
  obtain⟨v,r,rfl,h1,h2⟩:=h
  exact RDs.cons q h2
 | d::ds,vs,n+1,h=>by
  unfold RDs at h
  obtain⟨v,r,rfl,h1,h2⟩:=h
  exact RDs.cons h1 (RDs.set q n h2)
theorem RDs.reverse{w:Vw}:∀{ds:List D} {vs:List V},RDs w ds vs→RDs w ds.reverse vs.reverse
 | [],vs,h=>by unfold RDs at h;subst h;simp[RDs.nil]
 | d::ds,vs,h=>by
  unfold RDs at h
  obtain⟨v,r,rfl,h1,h2⟩:=h
  simp only[List.reverse_cons]
  exact(RDs.reverse h2).append (RDs.cons h1 (RDs.nil w))
noncomputable def Vw.push(w:Vw)(a:Addr)(o:HO):Vw:=⟨w.K,upd w.H a o,fun i=>if i=w.n then a else w.μ i,w.n+1⟩
noncomputable def Vw.alloc(w:Vw)(a:Addr)(o:HO):Vw:={w with H:=upd w.H a o}
theorem V5{w:Vw}{a:Addr}{o:HO}(h:w.H a=none):Ext w (w.alloc a o):=
 ⟨rfl,Nat.le_refl _,fun _ _=>rfl,fun b u q _=>by
  show upd w.H a o b=some u
  rw[Z9 (by rintro rfl;rw[h] at q;cases q)];exact q⟩
theorem Tf{w:Vw}{a:Addr}{o:HO}(h:w.H a=none):Ext w (w.push a o):=
 ⟨rfl,Nat.le_succ _,fun i hi=>by show(if i=w.n then a else w.μ i)=_;rw[if_neg (by omega)],fun b u q _=>by
  show upd w.H a o b=some u
  rw[Z9 (by rintro rfl;rw[h] at q;cases q)];exact q⟩
theorem SqF.stay{w w':Vw}{a:Addr}{vs:List V}(x:Ext w w')(h:SqF w.K w.H a vs):SqF w'.K w'.H a vs:=by
 rcases h with⟨o,h⟩ | h
 ·exact .inl ⟨o,x.imm _ _ h rfl⟩
 ·rw[x.K];exact .inr h
theorem SqF.sq{K:PySem.W.Frag}{H:Hp}{a:Addr}{vs:List V}(h:SqF K H a vs):SqL K H a vs:=by
 rcases h with⟨o,h⟩ | (h | ⟨o,h⟩) | h
 ·exact .inl (.inr ⟨o,h⟩)
 ·cases h
 ·cases h
 ·exact .inr h
theorem Oq.some{w:Vw}{c:Cell}{a:Addr}(hm:c.mut=true)(h:Oq w c a):∃o,w.H a=some o:=by
 cases c with
 | lst ds=>obtain⟨vs,q,_⟩:=h;exact⟨_,q⟩
 | frz ds=>cases hm
 | dct ds=>obtain⟨vs,q,_⟩:=h;exact⟨_,q⟩
 | fdc ds=>obtain⟨o,vs,q,_⟩:=h;exact⟨_,q⟩
theorem Oq.stay{w w':Vw}{c:Cell}{a:Addr}(x:Ext w w')(h:Oq w c a)(k:c.mut=true→w'.H a=w.H a):Oq w' c a:=by
 cases c with
 | lst ds=>obtain⟨vs,q,r⟩:=h;exact⟨vs,(k rfl).trans q,r.ext x⟩
 | frz ds=>obtain⟨vs,q,r⟩:=h;exact⟨vs,q.stay x,r.ext x⟩
 | dct ds=>obtain⟨vs,q,r⟩:=h;exact⟨vs,(k rfl).trans q,r.ext x⟩
 | fdc ds=>obtain⟨o,vs,q,r⟩:=h;exact⟨o,vs,(k rfl).trans q,r.ext x⟩
theorem RS.alloc{w:Vw}{M:Z1}{a:Addr}{o:HO}(R:RS w M)(h:w.H a=none):RS (w.alloc a o) M:=
 ⟨R.len,R.inj,fun i c e=>by
  have q:=R.cell i c e
  refine q.stay (V5 h) fun hm=>?_
  obtain⟨u,hu⟩:=q.some hm
  exact Z9 (fun z=>by have z:w.μ i=a:=z;rw[z,h] at hu;cases hu)⟩
theorem RS.push{w:Vw}{M:Z1}{a:Addr}{o:HO}{c:Cell}(R:RS w M)(h:w.H a=none)(new:Oq (w.push a o) c a):RS (w.push a o) (M++[c]):=by
 have old:∀(i:Nat) (ci:Cell),(M++[c])[i]?=some ci→(i=w.n∧ci=c)∨(i<w.n∧M[i]?=some ci):=fun i ci e=>by
  by_cases hi:i<M.length
  ·rw[List.getElem?_append_left hi] at e
   exact .inr ⟨by rw[R.len];exact hi,e⟩
  ·rw[List.getElem?_append_right (by omega)] at e
   have hz:i - M.length=0:=by
    have:=(List.getElem?_eq_some_iff.mp e).1
    simp at this
    omega
   rw[hz] at e
   simp at e
   exact .inl ⟨by rw[R.len];omega,e.symm⟩
 have no:∀(i:Nat) (ci:Cell),M[i]?=some ci→ci.mut=true→w.μ i≠a:=fun i ci e hm z=>by
  obtain⟨u,hu⟩:=(R.cell i ci e).some hm
  rw[z,h] at hu;cases hu
 refine⟨by show w.n+1=_;rw[R.len];simp,fun i j ci cj ei ej mi mj e=>?_,fun i c' e=>?_⟩
 ·change (if i=w.n then a else w.μ i)=(if j=w.n then a else w.μ j) at e
  rcases old i ci ei with⟨h1,_⟩ | ⟨h1,h1'⟩
  ·rcases old j cj ej with⟨h2,_⟩ | ⟨h2,h2'⟩
   ·omega
   ·rw[if_pos h1,if_neg (by omega)] at e
    exact absurd e.symm (no j cj h2' mj)
  ·rcases old j cj ej with⟨h2,_⟩ | ⟨h2,h2'⟩
   ·rw[if_neg (by omega),if_pos h2] at e
    exact absurd e (no i ci h1' mi)
   ·rw[if_neg (by omega),if_neg (by omega)] at e
    exact R.inj i j ci cj h1' h2' mi mj e
 ·show Oq _ c' (if i=w.n then a else w.μ i)
  rcases old i c' e with⟨h1,rfl⟩ | ⟨h1,h1'⟩
  ·rw[if_pos h1];exact new
  ·rw[if_neg (by omega)]
   have q:=R.cell i c' h1'
   exact q.stay (Tf h) fun hm=>Z9 (no i c' h1' hm)
theorem Wa{w:Vw}{a:Addr}{u o:HO}(h:w.H a=some u)(hu:Imm u=false):Ext w (w.alloc a o):=
 ⟨rfl,Nat.le_refl _,fun _ _=>rfl,fun b v q z=>by
  show upd w.H a o b=some v
  rw[Z9 (by rintro rfl;rw[h] at q;cases q;rw[hu] at z;cases z)];exact q⟩
theorem RS.write{w:Vw}{M:Z1}{i:Nat}{u o:HO}{c0 c:Cell}(R:RS w M)(h0:M[i]?=some c0)(hm:c0.mut=true)(hc:c.mut=true)(h:w.H (w.μ i)=some u)(hu:Imm u=false)(new:Oq (w.alloc (w.μ i) o) c (w.μ i)):RS (w.alloc (w.μ i) o) (M.set i c):=by
 have hi:i<M.length:=(List.getElem?_eq_some_iff.mp h0).1
 have old:∀(j:Nat) (cj:Cell),(M.set i c)[j]?=some cj→cj.mut=true→∃cj',M[j]?=some cj'∧cj'.mut=true:=fun j cj e mj=>by
  by_cases h1:j=i
  ·subst h1;exact⟨c0,h0,hm⟩
  ·rw[List.getElem?_set_ne (Ne.symm h1)] at e
   exact⟨cj,e,mj⟩
 refine⟨by show w.n=_;rw[R.len];simp,fun a b ca cb ea eb ma mb e=>?_,fun j c' e=>?_⟩
 ·obtain⟨ca',ea',ma'⟩:=old a ca ea ma
  obtain⟨cb',eb',mb'⟩:=old b cb eb mb
  exact R.inj a b ca' cb' ea' eb' ma' mb' e
 ·by_cases h1:j=i
  ·subst h1
   rw[List.getElem?_set_self hi] at e
   cases e
   exact new
  ·rw[List.getElem?_set_ne (Ne.symm h1)] at e
   have q:=R.cell j c' e
   exact q.stay (Wa h hu) fun mj=>Z9 (fun z=>h1 (R.inj j i c' c0 e h0 mj hm z))
theorem Nv{w:Vw}{a:Addr}{o:Obj}{vs:List (Key×V)}{u:HO}(h:w.H a=some (.frz o (.dK vs))):Ext0 w (w.alloc a u):=
 ⟨rfl,Nat.le_refl _,fun _ _=>rfl,fun b v q _ n=>by
  show upd w.H a u b=some v
  rw[Z9 (by rintro rfl;rw[h] at q;cases q;exact n _ _ rfl)];exact q⟩
theorem RS.thaw{w:Vw}{M:Z1}{i:Nat}{o:Obj}{vs:List (Key×V)}{kvs:List (Key×D)}(R:RS w M)(h0:M[i]?=some (.fdc kvs))(h:w.H (w.μ i)=some (.frz o (.dK vs)))(r:RKV w kvs vs):RS (w.alloc (w.μ i) (.dK vs)) (M.set i (.dct kvs)):=by
 have hi:i<M.length:=(List.getElem?_eq_some_iff.mp h0).1
 have x:=Nv (u:= .dK vs) h
 have old:∀(j:Nat) (cj:Cell),(M.set i (.dct kvs))[j]?=some cj→cj.mut=true→∃cj',M[j]?=some cj'∧cj'.mut=true:=fun j cj e mj=>by
  by_cases h1:j=i
  ·subst h1;exact⟨_,h0,rfl⟩
  ·rw[List.getElem?_set_ne (Ne.symm h1)] at e
   exact⟨cj,e,mj⟩
 refine⟨by show w.n=_;rw[R.len];simp,fun a b ca cb ea eb ma mb e=>?_,fun j c' e=>?_⟩
 ·obtain⟨ca',ea',ma'⟩:=old a ca ea ma
  obtain⟨cb',eb',mb'⟩:=old b cb eb mb
  exact R.inj a b ca' cb' ea' eb' ma' mb' e
 ·by_cases h1:j=i
  ·subst h1
   rw[List.getElem?_set_self hi] at e
   cases e
   exact⟨vs,Zv,r.ext0 x⟩
  ·rw[List.getElem?_set_ne (Ne.symm h1)] at e
   have q:=R.cell j c' e
   have ne:c'.mut=true→w.μ j≠w.μ i:=fun mj z=>h1 (R.inj j i c' _ e h0 mj rfl z)
   cases c' with
   | lst ds=>obtain⟨us,q,r⟩:=q;exact⟨us,(Z9 (ne rfl)).trans q,r.ext0 x⟩
   | dct ds=>obtain⟨us,q,r⟩:=q;exact⟨us,(Z9 (ne rfl)).trans q,r.ext0 x⟩
   | fdc ds=>obtain⟨o,us,q,r⟩:=q;exact⟨o,us,(Z9 (ne rfl)).trans q,r.ext0 x⟩
   | frz ds=>
    obtain⟨us,q,r⟩:=q
    refine⟨us,?_,r.ext0 x⟩
    rcases q with⟨o,q⟩ | q
    ·exact .inl ⟨o,x.imm _ _ q rfl (fun _ _ z=>by cases z)⟩
    ·exact .inr q
theorem Zd1{w1 w2:Vw}{a:Addr}{u f o:HO}(h:w1.H a=some u)(hu:Imm u=false)(x:Ext (w1.alloc a f) w2):Ext w1 (w2.alloc a o):=
 ⟨x.K,x.n,x.μ,fun b v q z=>by
  have hb:b≠a:=by rintro rfl;rw[h] at q;cases q;rw[hu] at z;cases z
  show upd w2.H a o b=some v
  rw[Z9 hb]
  exact x.imm b v ((Z9 hb).trans q) z⟩
inductive Op where
 | add | sub | mul | fdiv | mod | pow | band | bxor
 deriving DecidableEq
inductive Cm where
 | lt | le | gt | ge | eq | ne | is | isin | notin
 deriving DecidableEq
inductive Bf where
 | len | isinst | min2 | max2 | list1 | dict1 | int1
 deriving DecidableEq
inductive Mt where
 | append | get2 | pop0
 deriving DecidableEq
inductive Ty where
 | int | str | bool | list | tuple | dict | valueError
 deriving DecidableEq
noncomputable def Yt:Ty→String
 | .int=>"int" | .str=>"str" | .bool=>"bool" | .list=>"list" | .tuple=>"tuple" | .dict=>"dict" | .valueError=>"ValueError"
set_option genInjectivity false in
mutual
inductive E where
 | var (i:Nat) | int (i:Int) | bl (b:Bool) | non | str (x:Str) | ty (x:Ty) | glb (k:Nat)
 | bin (op:Op) (a b:E) | neg (a:E) | not (a:E) | cmp (op:Cm) (a b:E) | cmp2 (op op2:Cm) (a b d:E) | bop (isAnd:Bool) (es:Es) | ife (c a b:E)
 | lst (es:Es) | tup (es:Es) | dict0 | dct (a b:E) | ix (a b:E) | sl (a:E) (lo hi:Eo)
 | call (f:Nat) (es:Es) | bf (b:Bf) (es:Es) | mt (m:Mt) (o:E) (es:Es)
 | comp (N':List Str) (js:List (Option Nat)) (tg:List Nat) (it:It) (cd:Eo) (e:E)
 | rev (a:E)
inductive Es where
 | nil | cons (e:E) (r:Es)
inductive Eo where
 | no | yes (e:E)
inductive It where
 | seq (e:E) | rng1 (a:E) | rng2 (a b:E) | enm (e:E) | zip (es:Es)
end
inductive Tk where
 | drop | ret | set (j:Nat)
set_option genInjectivity false in
mutual
inductive S where
 | ret (e:E) | expr (e:E)
 | set (tg:List Nat) (e:E)
 | put (o i v:E)
 | ite (c:E) (a b:Ss) | for_ (tg:List Nat) (it:It) (b:Ss) | forK (tg:List Nat) (e:E) (b:Ss) | while_ (c:E) (b:Ss)
 | raise (k:Nat) (es:Es)
 | tryN (h:Tk) (f:Nat) (es:Es) (g:Nat) (s:Ss)
inductive Ss where
 | nil | cons (s:S) (r:Ss)
end
noncomputable def Zg(M:Z1)(n:Nat):Option (List D):=match M[n]? with
 | some (.lst xs)=>some xs
 | some (.frz xs)=>some xs
 | _=>none
noncomputable def Zi(M:Z1)(n:Nat):Option (List D):=match M[n]? with
 | some (.lst xs)=>some xs
 | _=>none
noncomputable def Zd(M:Z1)(n:Nat):Option (List (Key×D)):=match M[n]? with
 | some (.dct xs)=>some xs
 | _=>none
noncomputable def Cb(M:Z1)(n:Nat):Option (List (Key×D)):=match M[n]? with
 | some (.dct xs)=>some xs
 | some (.fdc xs)=>some xs
 | _=>none
noncomputable def valD(kvs:List (Key×D))(k:Key):Option D:=(kvs.find? fun kv=>decide (kv.1=k)).map (·.2)
noncomputable def putD(kvs:List (Key×D))(k:Key)(v:D):List (Key×D):=
 if (kvs.any fun kv=>decide (kv.1=k))=true then kvs.map (fun kv=>if kv.1=k then(kv.1,v) else kv) else kvs++[(k,v)]
noncomputable def keyD:D→Option Key
 | .int i=>some (.inl i)
 | .str x=>some (.inr x)
 | _=>none
noncomputable def kD:Key→D
 | .inl i=> .int i
 | .inr x=> .str x
noncomputable def Vu(ps:List (Key×D)):List D:=ps.map fun p=> .tup [kD p.1,p.2]
noncomputable def V6(ps:List (Key×D)):List (Key×D):=ps.foldl (fun m p=>putD m p.1 p.2) []
noncomputable def qdiv(i j:Int):Int:=if 0<j then i / j else i.fdiv j
noncomputable def qmod(i j:Int):Int:=if 0<j then i % j else i.fmod j
theorem G9(i j:Int):i.fdiv j=qdiv i j:=by
 unfold qdiv
 split
 ·exact Int.fdiv_eq_ediv_of_nonneg _ (by omega)
 ·rfl
theorem Qd(i j:Int):i.fmod j=qmod i j:=by
 unfold qmod
 split
 ·exact Int.fmod_eq_emod_of_nonneg _ (by omega)
 ·rfl
theorem Zh1{i j:Int}(h:0<j):qmod i j=i % j:=if_pos h
def Bl(x:D)(F:Int→Prop):Prop:=match x with
 | .int i=>F i
 | _=>False
def onBl(x:D)(F:Bool→Prop):Prop:=match x with
 | .bl b=>F b
 | _=>False
def Jn(x:D)(F:Nat→Prop):Prop:=match x with
 | .ref n=>F n
 | _=>False
def Y54(x:D)(F:List D→Prop):Prop:=match x with
 | .tup l=>F l
 | _=>False
def S4(x y:D)(F:Int→Int→Prop):Prop:=Bl x fun i=>Bl y fun j=>F i j
def at0(l:List D)(P:Prop):Prop:=match l with
 | []=>P
 | _::_=>False
def at1(l:List D)(F:D→Prop):Prop:=match l with
 | []=>False
 | a::r=>at0 r (F a)
def at2(l:List D)(F:D→D→Prop):Prop:=match l with
 | []=>False
 | a::r=>at1 r (F a)
theorem Ww{x:D}{F:Int→Prop}(h:Bl x F):∃i,x= .int i∧F i:=by
 cases x with
 | int i=>exact⟨i,rfl,h⟩
 | _=>exact False.elim h
theorem Zh3{x:D}{F:Bool→Prop}(h:onBl x F):∃b,x= .bl b∧F b:=by
 cases x with
 | bl b=>exact⟨b,rfl,h⟩
 | _=>exact False.elim h
theorem W7{x:D}{F:Nat→Prop}(h:Jn x F):∃n,x= .ref n∧F n:=by
 cases x with
 | ref n=>exact⟨n,rfl,h⟩
 | _=>exact False.elim h
theorem Z77{x:D}{F:List D→Prop}(h:Y54 x F):∃l,x= .tup l∧F l:=by
 cases x with
 | tup l=>exact⟨l,rfl,h⟩
 | _=>exact False.elim h
theorem Yl{x y:D}{F:Int→Int→Prop}(h:S4 x y F):∃i j,x= .int i∧y= .int j∧F i j:=by
 obtain⟨i,rfl,h1⟩:=Ww h
 obtain⟨j,rfl,h2⟩:=Ww h1
 exact⟨i,j,rfl,rfl,h2⟩
theorem Z66{l:List D}{P:Prop}(h:at0 l P):l=[]∧P:=by
 cases l with
 | nil=>exact⟨rfl,h⟩
 | cons _ _=>exact False.elim h
theorem Tw{l:List D}{F:D→Prop}(h:at1 l F):∃a,l=[a]∧F a:=by
 cases l with
 | nil=>exact False.elim h
 | cons a r=>obtain⟨rfl,h1⟩:=Z66 h;exact⟨a,rfl,h1⟩
theorem Q2{l:List D}{F:D→D→Prop}(h:at2 l F):∃a b,l=[a,b]∧F a b:=by
 cases l with
 | nil=>exact False.elim h
 | cons a r=>obtain⟨b,rfl,h1⟩:=Tw h;exact⟨a,b,rfl,h1⟩
def addD(x y:D)(M:Z1)(Q:DK):Prop:=match x with
 | .int i=>Bl y fun j=>Q (.int (i+j)) M
 | .str a=>match y with
  | .str b=>a.length+b.length≤sizeLine∧Q (.str (a++b)) M
  | _=>False
 | .tup a=>Y54 y fun b=>a≠[]∧a.length+b.length≤sizeLine∧Q (.tup (a++b)) M
 | .ref a=>Jn y fun b=>∃xs ys,Zi M a=some xs∧Zi M b=some ys∧xs.length+ys.length≤sizeLine∧Q (.ref M.length) (M++[.lst (xs++ys)])
 | _=>False
def mulD(x y:D)(M:Z1)(Q:DK):Prop:=match x with
 | .int i=>Bl y fun j=>IntMulOk i j∧Q (.int (i * j)) M
 | .ref a=>Bl y fun k=>∃xs,Zi M a=some xs∧0≤k∧k<2 ^ 62∧xs.length * k.toNat≤sizeLine∧Q (.ref M.length) (M++[.lst (List.replicate k.toNat xs).flatten])
 | _=>False
def opD(op:Op)(x y:D)(M:Z1)(Q:DK):Prop:=match op with
 | .add=>addD x y M Q
 | .mul=>mulD x y M Q
 | .sub=>S4 x y fun i j=>Q (.int (i - j)) M
 | .fdiv=>S4 x y fun i j=>Z82 i j∧Q (.int (qdiv i j)) M
 | .mod=>S4 x y fun i j=>j≠0∧Q (.int (qmod i j)) M
 | .pow=>S4 x y fun i j=>CPow i j∧Q (.int (i ^ j.toNat)) M
 | .band=>S4 x y fun i j=>Q (.int (Builtin.bitAnd i j)) M
 | .bxor=>S4 x y fun i j=>Q (.int (Builtin.bitXor i j)) M
mutual
def PD(M:Z1):PyData→D→Prop
 | .none,d=>d= .non
 | .bool b,d=>d= .bl b
 | .int i,d=>d= .int i
 | .str x,d=>d= .str x
 | .list xs,d=>∃n ds,d= .ref n∧Zg M n=some ds∧PDs M xs ds
 | .tuple xs,d=>∃ds,d= .tup ds∧PDs M xs ds
 | .dict _,_=>False
def PDs(M:Z1):List PyData→List D→Prop
 | [],ds=>ds=[]
 | x::xs,ds=>∃d r,ds=d::r∧PD M x d∧PDs M xs r
end
noncomputable def Xk:D→Bool
 | .non | .bl _ | .int _ | .str _=>true
 | _=>false
noncomputable def eqF:D→D→Bool
 | .non,.non=>true
 | .bl a,.bl b=>a==b
 | .bl a,.int b=>(if a then 1 else 0)==b
 | .int a,.bl b=>a==(if b then 1 else 0)
 | .int a,.int b=>a==b
 | .str a,.str b=>a==b
 | _,_=>false
noncomputable def inD(x:D)(xs:List D):Bool:=xs.any fun y=>eqF y x
noncomputable def eqKV(a b:List (Key×D)):Bool:=a.length==b.length&&a.all fun kv=>match valD b kv.1 with
 | some y=>eqF kv.2 y
 | none=>false
def eqD(M:Z1):D→D→(Bool→Prop)→Prop
 | .int i,.int j,Q=>Q (decide (i=j))
 | .str i,.str j,Q=>Q (decide (i=j))
 | .bl i,.bl j,Q=>Q (decide (i=j))
 | .non,.non,Q=>Q true
 | .non,.int _,Q=>Q false
 | .int _,.non,Q=>Q false
 | .non,.bl _,Q=>Q false
 | .bl _,.non,Q=>Q false
 | .non,.str _,Q=>Q false
 | .str _,.non,Q=>Q false
 | .int _,.str _,Q=>Q false
 | .str _,.int _,Q=>Q false
 | .bl _,.str _,Q=>Q false
 | .str _,.bl _,Q=>Q false
 | x,y,Q=>(∃da db,PD M da x∧PD M db y∧da.canLay0=true∧db.canLay0=true∧min da.depth db.depth≤60∧Q (PyData.eqv da db))∨
   ∃m n a b,x= .ref m∧y= .ref n∧Zd M m=some a∧Zd M n=some b∧(a.all fun kv=>Xk kv.2)=true∧(b.all fun kv=>Xk kv.2)=true∧Q (eqKV a b)
noncomputable def Z71(M:Z1):D→Option (List D)
 | .ref n=>Zg M n
 | .tup xs=>some xs
 | .gtup xs=>some xs
 | _=>none
def inQ(M:Z1):D→D→(Bool→Prop)→Prop
 | .str a,.str b,Q=>Q (!(Builtin.Str.occurrences b a 0 b.length 1).isEmpty)
 | x,.ref n,Q=>(∃xs,Zg M n=some xs∧Xk x=true∧xs.all Xk=true∧Q (inD x xs))∨(∃kvs k,Zd M n=some kvs∧keyD x=some k∧Q (valD kvs k).isSome)
 | x,.tup xs,Q=>Xk x=true∧xs.all Xk=true∧Q (inD x xs)
 | x,.gtup xs,Q=>Xk x=true∧xs.all Xk=true∧Q (inD x xs)
 | _,_,_=>False
def nonD(x y:D)(Q:Bool→Prop):Prop:=match y with
 | .non=>match x with
  | .non=>Q true
  | .bl _=>Q false
  | .int _=>Q false
  | .str _=>Q false
  | .tup _=>Q false
  | .ref _=>Q false
  | .exn _ _ _ _=>Q false
  | _=>False
 | _=>False
def cmD(M:Z1)(op:Cm)(x y:D)(Q:Bool→Prop):Prop:=match op with
 | .lt=>S4 x y fun i j=>Q (decide (i<j))
 | .le=>S4 x y fun i j=>Q (decide (i≤j))
 | .gt=>S4 x y fun i j=>Q (decide (j<i))
 | .ge=>S4 x y fun i j=>Q (decide (j≤i))
 | .eq=>eqD M x y Q
 | .ne=>eqD M x y fun b=>Q (!b)
 | .is=>nonD x y Q
 | .isin=>inQ M x y Q
 | .notin=>inQ M x y fun b=>Q (!b)
def truD(M:Z1):D→(Bool→Prop)→Prop
 | .non,Q=>Q false
 | .bl b,Q=>Q b
 | .int i,Q=>Q (i !=0)
 | .str x,Q=>x.length≤sizeLine∧Q ((x.length:Int) !=0)
 | .tup xs,Q=>Q (!xs.isEmpty)
 | .ref n,Q=>(∃xs,Zg M n=some xs∧Q (!xs.isEmpty))∨(∃xs,Zd M n=some xs∧Q (!xs.isEmpty))
 | _,_=>False
def ixD(M:Z1):D→D→(D→Prop)→Prop
 | .ref n,k,Q=>(∃xs i d,k= .int i∧Zg M n=some xs∧atI xs i=some d∧Q d)∨(∃kvs y d,Cb M n=some kvs∧keyD k=some y∧valD kvs y=some d∧Q d)
 | .tup xs,.int i,Q=>∃d,atI xs i=some d∧Q d
 | .gtup xs,.int i,Q=>∃d,atI xs i=some d∧Q d
 | .str z,.int i,Q=>z.length≤sizeLine∧∃c,atI z.cps.toList i=some c∧Q (.str ⟨#[c]⟩)
 | _,_,_=>False
noncomputable def cutD{α:Type}(xs:List α)(lo hi:Option Int):List α:=(xs.drop (HT.sIx xs.length 0 lo)).take (HT.sIx xs.length xs.length hi - HT.sIx xs.length 0 lo)
def slD:D→Option Int→Option Int→Z1→DK→Prop
 | .str z,lo,hi,M,Q=>z.length≤sizeLine∧Q (.str (Txt.slice z lo hi)) M
 | .ref n,lo,hi,M,Q=>∃xs,Zg M n=some xs∧Q (.ref M.length) (M++[.lst (cutD xs lo hi)])
 | .tup xs,lo,hi,M,Q=>¬(HT.sIx xs.length 0 lo=0∧HT.sIx xs.length xs.length hi=xs.length)∧Q (.tup (cutD xs lo hi)) M
 | _,_,_,_,_=>False
noncomputable def tyD(M:Z1):D→Option String
 | .non=>some "NoneType"
 | .bl _=>some "bool"
 | .int _=>some "int"
 | .str _=>some "str"
 | .tup _=>some "tuple"
 | .ref n=>match M[n]? with
  | some (.lst _)=>some "list"
  | some (.frz _)=>none
  | some (.dct _)=>some "dict"
  | some (.fdc _)=>none
  | none=>none
 | _=>none
def isD(K:PySem.W.Frag)(M:Z1):D→D→(Bool→Prop)→Prop
 | .exn _ C _ _,.cls c,Q=>∃b,ExcIs K C∧PySem.W.kitOne K (.ref C) (.ref c)=some b∧Q b
 | .exn _ C _ _,.ty c,Q=>∃b,ExcIs K C∧PySem.W.kitOne K (.ref C) (.type c)=some b∧Q b
 | .exn _ C _ _,.tup cs,Q=>∃(as:List Addr) (b:Bool),cs=as.map D.cls∧ExcIs K C∧PySem.W.kitAny K (.ref C) (as.map Value.ref)=some b∧Q b
 | d,.ty c,Q=>∃t b,tyD M d=some t∧PySem.W.kitOne K (.type t) (.type c)=some b∧Q b
 | _,_,_=>False
def lenD(x:D)(M:Z1)(Q:DK):Prop:=match x with
 | .ref n=>(∃xs,Zg M n=some xs∧Q (.int xs.length) M)∨(∃xs,Zd M n=some xs∧Q (.int xs.length) M)
 | .tup xs=>Q (.int xs.length) M
 | .str x=>x.length≤sizeLine∧Q (.int x.length) M
 | _=>False
def bfD(K:PySem.W.Frag)(b:Bf)(l:List D)(M:Z1)(Q:DK):Prop:=match b with
 | .len=>at1 l fun x=>lenD x M Q
 | .isinst=>at2 l fun d c=>isD K M d c fun b=>Q (.bl b) M
 | .min2=>at2 l fun x y=>S4 x y fun i j=>Q (.int (if j<i then j else i)) M
 | .max2=>at2 l fun x y=>S4 x y fun i j=>Q (.int (if j >i then j else i)) M
 | .list1=>at1 l fun d=>∃xs,Z71 M d=some xs∧Q (.ref M.length) (M++[.lst xs])
 | .dict1=>at1 l fun x=>Jn x fun n=>(∃xs,Zd M n=some xs∧Q (.ref M.length) (M++[.dct xs]))∨(∃ps:List (Key×D),Zg M n=some (Vu ps)∧ps.length<sizeLine∧Q (.ref M.length) (M++[.dct (V6 ps)]))
 | .int1=>at1 l fun x=>onBl x fun b=>Q (.int (if b then 1 else 0)) M
def mtD(m:Mt)(o:D)(l:List D)(M:Z1)(Q:DK):Prop:=Jn o fun n=>match m with
 | .append=>at1 l fun d=>∃xs,Zi M n=some xs∧xs.length<sizeLine∧Q .non (M.set n (.lst (xs++[d])))
 | .get2=>at2 l fun k z=>∃kvs y,Zd M n=some kvs∧keyD k=some y∧Q ((valD kvs y).getD z) M
 | .pop0=>at0 l (∃xs d,Zi M n=some xs∧xs[xs.length - 1]?=some d∧Q d (M.set n (.lst xs.dropLast)))
def mtK(m:Mt)(o:D)(M:Z1):Prop:=Jn o fun n=>match m with
 | .get2=>(Zd M n).isSome=true
 | _=>(Zg M n).isSome=true
def tgD:List Nat→D→DEnv→(DEnv→Prop)→Prop
 | [i],d,σ,Q=>Q (σ.set i (some d))
 | is,.tup ds,σ,Q=>ds.length=is.length∧Q ((is.zip ds).foldl (fun σ p=>σ.set p.1 (some p.2)) σ)
 | _,_,_,_=>False
inductive Own where
 | no | lst (n:Nat) | enm (n:Nat) | dct (n:Nat) | two (n m:Nat)
noncomputable def Og(kvs:List (Key×D)):List D:=kvs.map fun p=>kD p.1
def Zy4(n:Nat)(M:Z1)(Q:Z1→Prop):Prop:=∃kvs,M[n]?=some (.fdc kvs)∧Q (M.set n (.dct kvs))
noncomputable def Y59(n:Nat)(R:DEnds):DEnds:={nx:=fun σ M=>Zy4 n M (R.nx σ),rt:=fun d M=>Zy4 n M (R.rt d),bk:=fun _ _=>False,ct:=fun _ _=>False}
noncomputable def N7(xs:List D):List D:=xs.mapIdx fun i d=> .tup [.int i,d]
noncomputable def zipT(ys zs:List D):List D:=(ys.zip zs).map fun p=>D.tup [p.1,p.2]
def itD(M:Z1):D→(Own→List D→Prop)→Prop
 | .ref n,R=>∃xs,Zg M n=some xs∧R (.lst n) xs
 | .tup xs,R=>R .no xs
 | .gtup xs,R=>R .no xs
 | _,_=>False
noncomputable def Qm(lo:Int)(n:Nat):List D:=(List.range n).map fun(k:Nat)=>D.int (lo+(k:Int))
def O8(own:Own)(xs:List D)(M:Z1):Prop:=match own with
 | .lst n=>Zg M n=some xs
 | .enm n=>∃ys,Zg M n=some ys∧xs=N7 ys
 | .dct n=>∃kvs,M[n]?=some (.fdc kvs)∧xs=Og kvs
 | .two n m=>∃ys zs,Zg M n=some ys∧Zg M m=some zs∧xs=zipT ys zs
 | .no=>True
def forD(own:Own)(xs:List D)(tg:List Nat)(body:DS):List D→DEnds→DEnv→Z1→Prop
 | [],R,σ,M=>O8 own xs M∧R.nx σ M
 | d::r,R,σ,M=>O8 own xs M∧tgD tg d σ fun σ'=>body {nx:=fun σ2 M2=>forD own xs tg body r R σ2 M2,rt:=R.rt,bk:=R.nx,ct:=fun σ2 M2=>forD own xs tg body r R σ2 M2} σ' M
def Jz(own:Own)(xs:List D)(tg:List Nat)(cd:DT)(el:DE)(z:Nat):List D→DEnv→Z1→(Z1→Prop)→Prop
 | [],_,M,Q=>O8 own xs M∧Q M
 | d::r,σ,M,Q=>O8 own xs M∧tgD tg d σ fun σ'=>cd σ' M fun b M1=>if b=true then
   el σ' M1 fun y M2=>∃acc,Zi M2 z=some acc∧acc.length<sizeLine∧Jz own xs tg cd el z r σ' (M2.set z (.lst (acc++[y]))) Q
   else Jz own xs tg cd el z r σ' M1 Q
noncomputable def capD(js:List (Option Nat))(σ:DEnv):DEnv:=js.map fun o=>o.bind fun j=>(σ[j]?).join
abbrev noX:DX:=fun _ _ _=>False
structure Cfg where
 K:PySem.W.Frag
 Γ:List DSp
 G:List D
mutual
def te(c:Cfg)(X:DX):E→DE
 | .var i,σ,M,Q=>match σ[i]? with
  | some (some d)=>Q d M
  | _=>False
 | .int i,_,M,Q=>Q (.int i) M
 | .bl b,_,M,Q=>Q (.bl b) M
 | .non,_,M,Q=>Q .non M
 | .str x,_,M,Q=>Q (.str x) M
 | .ty n,_,M,Q=>Q (.ty (Yt n)) M
 | .glb k,_,M,Q=>match c.G[k]? with
  | some d=>Q d M
  | none=>False
 | .bin op a b,σ,M,Q=>te c X a σ M fun x M1=>te c X b σ M1 fun y M2=>opD op x y M2 Q
 | .neg a,σ,M,Q=>te c X a σ M fun x M1=>match x with
  | .int i=>Q (.int (-i)) M1
  | _=>False
 | .not a,σ,M,Q=>te c X a σ M fun x M1=>truD M1 x fun b=>Q (.bl (!b)) M1
 | .cmp op a b,σ,M,Q=>te c X a σ M fun x M1=>te c X b σ M1 fun y M2=>cmD M2 op x y fun r=>Q (.bl r) M2
 | .cmp2 op op2 a b d,σ,M,Q=>te c X a σ M fun x M1=>te c X b σ M1 fun y M2=>cmD M2 op x y fun r=>if r=true then te c X d σ M2 fun z M3=>cmD M3 op2 y z fun r=>Q (.bl r) M3 else Q (.bl false) M2
 | .bop k es,σ,M,Q=>tbop c X k es σ M Q
 | .ife t a b,σ,M,Q=>te c X t σ M fun x M1=>truD M1 x fun r=>if r=true then te c X a σ M1 Q else te c X b σ M1 Q
 | .lst es,σ,M,Q=>tes c X es σ M fun ds M1=>ds.length≤sizeLine∧Q (.ref M1.length) (M1++[.lst ds])
 | .tup es,σ,M,Q=>tes c X es σ M fun ds M1=>ds.length≤sizeLine∧Q (.tup ds) M1
 | .dict0,_,M,Q=>Q (.ref M.length) (M++[.dct []])
 | .dct a b,σ,M,Q=>te c X a σ (M++[.dct []]) fun x M1=>te c X b σ M1 fun y M2=>∃k,keyD x=some k∧Zd M2 M.length=some []∧Q (.ref M.length) (M2.set M.length (.dct [(k,y)]))
 | .ix a b,σ,M,Q=>te c X a σ M fun x M1=>te c X b σ M1 fun y M2=>ixD M2 x y fun d=>Q d M2
 | .sl a lo hi,σ,M,Q=>te c X a σ M fun x M1=>teo c X lo σ M1 fun l M2=>teo c X hi σ M2 fun h M3=>slD x l h M3 Q
 | .call f es,σ,M,Q=>tes c X es σ M fun ds M1=>match c.Γ[f]? with
  | some sp=>sp ds M1 Q X
  | none=>False
 | .bf b es,σ,M,Q=>tes c X es σ M fun ds M1=>bfD c.K b ds M1 Q
 | .rev a,σ,M,Q=>te c X a σ M fun x M1=>match x with
  | .ref n=>∃xs,Zg M1 n=some xs∧Q (.ref M1.length) (M1++[.lst xs.reverse])
  | _=>False
 | .mt m o es,σ,M,Q=>te c X o σ M fun x M1=>mtK m x M1∧tes c X es σ M1 fun ds M2=>mtD m x ds M2 Q
 | .comp _ js tg it cd e,σ,M,Q=>tit c X it σ M fun own xs M1=>Jz own xs tg (tcd c noX cd) (te c noX e) M1.length xs (capD js σ) (M1++[.lst []]) fun M2=>Q (.ref M1.length) M2
def tbop(c:Cfg)(X:DX)(k:Bool):Es→DE
 | .nil,_,_,_=>False
 | .cons e .nil,σ,M,Q=>te c X e σ M Q
 | .cons e (.cons e2 r),σ,M,Q=>te c X e σ M fun x M1=>truD M1 x fun b=>if b=k then tbop c X k (.cons e2 r) σ M1 Q else Q x M1
def tes(c:Cfg)(X:DX):Es→DA
 | .nil,_,M,Q=>Q [] M
 | .cons e r,σ,M,Q=>te c X e σ M fun d M1=>tes c X r σ M1 fun ds M2=>Q (d::ds) M2
def teo(c:Cfg)(X:DX):Eo→DEnv→Z1→(Option Int→Z1→Prop)→Prop
 | .no,_,M,Q=>Q none M
 | .yes e,σ,M,Q=>te c X e σ M fun d M1=>match d with
  | .int i=>Q (some i) M1
  | _=>False
def tcd(c:Cfg)(X:DX):Eo→DT
 | .no,_,M,Q=>Q true M
 | .yes e,σ,M,Q=>te c X e σ M fun x M1=>truD M1 x fun b=>Q b M1
def tit(c:Cfg)(X:DX):It→DEnv→Z1→(Own→List D→Z1→Prop)→Prop
 | .seq e,σ,M,Q=>te c X e σ M fun d M1=>itD M1 d fun own xs=>Q own xs M1
 | .rng1 a,σ,M,Q=>te c X a σ M fun d M1=>match d with
  | .int j=> -(2 ^ 62)≤j∧j<2 ^ 62∧Q .no (Qm 0 j.toNat) M1
  | _=>False
 | .rng2 a b,σ,M,Q=>te c X a σ M fun d M1=>te c X b σ M1 fun d2 M2=>match d,d2 with
  | .int i,.int j=>(-(2 ^ 62)≤i∧i<2 ^ 62∧ -(2 ^ 62)≤j∧j<2 ^ 62)∧Q .no (Qm i (j - i).toNat) M2
  | _,_=>False
 | .enm e,σ,M,Q=>te c X e σ M fun d M1=>match d with
  | .ref n=>∃xs,Zg M1 n=some xs∧Q (.enm n) (N7 xs) M1
  | _=>False
 | .zip es,σ,M,Q=>tes c X es σ M fun ds M1=>at2 ds fun a b=>Jn a fun n=>Jn b fun m=>∃ys zs,Zg M1 n=some ys∧Zg M1 m=some zs∧Q (.two n m) (zipT ys zs) M1
end
def tt(c:Cfg)(X:DX)(e:E):DT:=fun σ M Q=>te c X e σ M fun x M1=>truD M1 x fun b=>Q b M1
noncomputable def tkD:Tk→DEnds→DEnv→DK
 | .drop,R,σ=>fun _ M=>R.nx σ M
 | .ret,R,_=>R.rt
 | .set j,R,σ=>fun d M=>R.nx (σ.set j (some d)) M
noncomputable def excD:List D→Option D
 | []=>some .non
 | [d]=>some d
 | _=>none
mutual
def ts(c:Cfg)(X:DX):S→DS
 | .ret e,R,σ,M=>te c X e σ M R.rt
 | .expr e,R,σ,M=>te c X e σ M fun _ M1=>R.nx σ M1
 | .set tg e,R,σ,M=>te c X e σ M fun d M1=>tgD tg d σ fun σ'=>R.nx σ' M1
 | .put o i v,R,σ,M=>te c X v σ M fun d M1=>te c X o σ M1 fun x M2=>te c X i σ M2 fun y M3=>match x with
  | .ref n=>(∃xs k j,y= .int k∧Zi M3 n=some xs∧ixN xs.length k=some j∧R.nx σ (M3.set n (.lst (xs.set j d))))∨
    (∃kvs k,Zd M3 n=some kvs∧keyD y=some k∧kvs.length<sizeLine∧R.nx σ (M3.set n (.dct (putD kvs k d))))
  | _=>False
 | .ite t a b,R,σ,M=>tt c X t σ M fun r M1=>if r=true then tss c X a R σ M1 else tss c X b R σ M1
 | .for_ tg it b,R,σ,M=>tit c X it σ M fun own xs M1=>forD own xs tg (tss c X b) xs R σ M1
 | .forK tg e b,R,σ,M=>te c X e σ M fun d M1=>match d with
  | .ref n=>∃kvs,Zd M1 n=some kvs∧forD (.dct n) (Og kvs) tg (tss c X b) (Og kvs) (Y59 n R) σ (M1.set n (.fdc kvs))
  | _=>False
 | .while_ t b,R,σ,M=>∃W:Nat→DEnv→Z1→Prop,(∃m,W m σ M)∧∀m σ M,W m σ M→tt c X t σ M fun r M1=>if r=true then
   tss c X b {nx:=fun σ2 M2=>∃m',m'<m∧W m' σ2 M2,rt:=R.rt,bk:=R.nx,ct:=fun σ2 M2=>∃m',m'<m∧W m' σ2 M2} σ M1 else R.nx σ M1
 | .raise k es,_,σ,M=>match c.G[k]? with
  | some (.cls C)=>tes c X es σ M fun ds M1=>match excD ds with
   | some r=>X C r M1
   | none=>False
  | _=>False
 | .tryN h f es g s,R,σ,M=>match c.G[g]? with
  | some (.cls D)=>tes c noX es σ M fun ds M1=>match c.Γ[f]? with
   | some sp=>sp ds M1 (tkD h R σ) fun C _ M2=>Catch c.K C D true∧tss c noX s R σ M2
   | none=>False
  | _=>False
def tss(c:Cfg)(X:DX):Ss→DS
 | .nil,R,σ,M=>R.nx σ M
 | .cons s r,R,σ,M=>ts c X s {R with nx:=fun σ' M'=>tss c X r R σ' M'} σ M
end
def REnv(w:Vw)(σD:DEnv)(σ:L2.St):Prop:=σD.length=σ.length∧∀(i:Nat) d,σD[i]?=some (some d)→∃v,σ[i]?=some (some v)∧RD w d v
theorem REnv.ext{w w':Vw}{σD:DEnv}{σ:L2.St}(h:REnv w σD σ)(x:Ext w w'):REnv w' σD σ:=
 ⟨h.1,fun i d e=>by obtain⟨v,q,r⟩:=h.2 i d e;exact⟨v,q,r.ext x⟩⟩
theorem REnv.set{w:Vw}{σD:DEnv}{σ:L2.St}{d:D}{v:V}(h:REnv w σD σ)(i:Nat)(r:RD w d v):REnv w (σD.set i (some d)) (σ.set i (some v)):=by
 refine⟨by simp[h.1],fun j d' e=>?_⟩
 by_cases hj:i=j
 ·subst hj
  by_cases hl:i<σD.length
  ·rw[List.getElem?_set_self hl] at e
   cases e
   exact⟨v,by rw[List.getElem?_set_self (by rw[←h.1];exact hl)],r⟩
  ·rw[List.getElem?_eq_none (by simp;omega)] at e
   cases e
 ·rw[List.getElem?_set_ne hj] at e
  rw[List.getElem?_set_ne hj]
  exact h.2 j d' e
structure StOk(w0 w:Vw)(σD:DEnv)(M:Z1)(σ:L2.St)(H:Hp):Prop where
 heap:w.H=H
 ext:Ext w0 w
 rs:RS w M
 env:REnv w σD σ
theorem StOk.next{w0 w w':Vw}{σD:DEnv}{M M':Z1}{σ:L2.St}{H:Hp}(s:StOk w0 w σD M σ H)(x:Ext w w')(r:RS w' M'):StOk w0 w' σD M' σ w'.H:=
 ⟨rfl,s.ext.trans x,r,s.env.ext x⟩
def Aft(w:Vw)(QD:DK)(Q:VK):Prop:=∀v w' d M',Ext w w'→RS w' M'→RD w' d v→QD d M'→Q v w'.H
def tF(w0:Vw)(f:DE):TE:=fun σ H Q=>∃w σD M QD,StOk w0 w σD M σ H∧f σD M QD∧Aft w QD Q
def tFA(w0:Vw)(f:DA):TA:=fun σ H Q=>∃w σD M QD,StOk w0 w σD M σ H∧f σD M QD∧∀vs w' ds M',Ext w w'→RS w' M'→RDs w' ds vs→QD ds M'→Q vs w'.H
def tFT(w0:Vw)(f:DT):TT:=fun σ H Q=>∃w σD M QD,StOk w0 w σD M σ H∧f σD M QD∧∀b w' M',Ext w w'→RS w' M'→QD b M'→Q b w'.H
def tFO(w0:Vw)(f:DEnv→Z1→(Option Int→Z1→Prop)→Prop):TO:=fun σ H Q=>∃w σD M QD,StOk w0 w σD M σ H∧f σD M QD∧∀b w' M',Ext w w'→RS w' M'→QD b M'→Q b w'.H
def tFS(w0:Vw)(f:DS):TS:=fun R σ H=>∃w σD M RD',StOk w0 w σD M σ H∧f RD' σD M∧
 (∀σ' w' σD' M',Ext w w'→RS w' M'→REnv w' σD' σ'→RD'.nx σD' M'→R.nx σ' w'.H)∧Aft w RD'.rt R.rt∧
 (∀σ' w' σD' M',Ext w w'→RS w' M'→REnv w' σD' σ'→RD'.bk σD' M'→R.bk σ' w'.H)∧
 (∀σ' w' σD' M',Ext w w'→RS w' M'→REnv w' σD' σ'→RD'.ct σD' M'→R.ct σ' w'.H)
def xkOf(w:Vw)(Z:DX):XK:=fun cls dd H'=>∃C dx r w' row M',cls= .ref C∧dd=some dx∧w'.H=H'∧Ext w w'∧RS w' M'∧H' dx=some (.xd [("row",r)])∧RD w' row r∧Z C row M'
def spF(K:PySem.W.Frag)(sp:DSp):Sp:=fun vs H Q E=>∃w ds M QD Z,w.K=K∧w.H=H∧RS w M∧RDs w ds vs∧sp ds M QD Z∧Aft w QD Q∧∀cls dd H',xkOf w Z cls dd H'→E cls dd H'
theorem Aft.ext{w w':Vw}{QD:DK}{Q:VK}(h:Aft w QD Q)(x:Ext w w'):Aft w' QD Q:=fun v w2 d M y r q p=>h v w2 d M (x.trans y) r q p
section
variable{X:Cx}{e:Expr}{w0:Vw}
theorem PE.imp{t t':TE}(h:PE X e t)(k:∀σ H Q,t' σ H Q→t σ H Q):PE X e t':=fun pins s σ H Q I q=>h pins s σ H Q I (k σ H Q q)
theorem PT.imp{t t':TT}(h:PT X e t)(k:∀σ H Q,t' σ H Q→t σ H Q):PT X e t':=fun pins s σ H Q I q=>h pins s σ H Q I (k σ H Q q)
theorem PA.imp{es:List Expr}{t t':TA}(h:PA X es t)(k:∀σ H Q,t' σ H Q→t σ H Q):PA X es t':=fun pos pins s σ H Q I q=>h pos pins s σ H Q I (k σ H Q q)
theorem PS.imp{st:Stmt}{t t':TS}(h:PS X st t)(k:∀R σ H,t' R σ H→t R σ H):PS X st t':=fun pins s σ H R I q=>h pins s σ H R I (k R σ H q)
theorem PSs.imp{st:List Stmt}{t t':TS}(h:PSs X st t)(k:∀R σ H,t' R σ H→t R σ H):PSs X st t':=fun pins s σ H R I q=>h pins s σ H R I (k R σ H q)
end
def rF(w0:Vw)(g:D→D→Z1→DK→Prop):R2:=fun x y H Q=>∃w M dx dy QD,w.H=H∧Ext w0 w∧RS w M∧RD w dx x∧RD w dy y∧g dx dy M QD∧Aft w QD Q
theorem Zc{w:Vw}{i:Int}{v:V}:RD w (.int i) v↔v= .int i:=by unfold RD;exact Iff.rfl
theorem Y7{w:Vw}{i:Str}{v:V}:RD w (.str i) v↔v= .str i:=by unfold RD;exact Iff.rfl
theorem Xd{w:Vw}{i:Bool}{v:V}:RD w (.bl i) v↔v= .bl i:=by unfold RD;exact Iff.rfl
theorem Yi{w:Vw}{v:V}:RD w .non v↔v= .non:=by unfold RD;exact Iff.rfl
theorem Zt0{w:Vw}{n:String}{v:V}:RD w (.ty n) v↔v= .ty n:=by unfold RD;exact Iff.rfl
theorem Qv{w:Vw}{n:Addr}{v:V}:RD w (.cls n) v↔v= .ref n:=by unfold RD;exact Iff.rfl
theorem Zy{w:Vw}{i:Nat}{v:V}:RD w (.ref i) v↔i<w.n∧v= .ref (w.μ i):=by unfold RD;exact Iff.rfl
theorem Xe{w:Vw}{ds:List D}{v:V}:RD w (.tup ds) v↔∃a vs,v= .ref a∧w.H a=some (.tup vs)∧RDs w ds vs:=by unfold RD;exact Iff.rfl
theorem Ol{w:Vw}{ds:List D}{v:V}:RD w (.gtup ds) v↔∃a vs,v= .ref a∧SqT w.K w.H a vs∧RDs w ds vs:=by unfold RD;exact Iff.rfl
theorem Ff{w:Vw}{e C dx:Addr}{row:D}{v:V}:RD w (.exn e C dx row) v↔v= .ref e∧w.H e=some (XO e (.ref C) (some dx))∧∃r,w.H dx=some (.xd [("row",r)])∧RD w row r:=Iff.of_eq (by rw[RD])
theorem RDs.empty{w:Vw}{ds:List D}(h:RDs w ds []):ds=[]:=by
 have:=h.length
 exact List.length_eq_zero_iff.mp this.symm
theorem Zp8{M:Z1}{n:Nat}{xs:List D}(h:Zi M n=some xs):Zg M n=some xs:=by
 unfold Zi at h
 unfold Zg
 split at h
 ·rename_i e;rw[e];exact h
 ·cases h
theorem Of{M:Z1}{n:Nat}{xs:List D}(h:Zi M n=some xs):M[n]?=some (.lst xs):=by
 unfold Zi at h
 split at h
 ·rename_i e;rw[e];cases h;rfl
 ·cases h
theorem We{M:Z1}{n:Nat}{xs:List (Key×D)}(h:Zd M n=some xs):M[n]?=some (.dct xs):=by
 unfold Zd at h
 split at h
 ·rename_i e;rw[e];cases h;rfl
 ·cases h
theorem RS.list{w:Vw}{M:Z1}{n:Nat}{xs:List D}(R:RS w M)(h:Zi M n=some xs):M[n]?=some (.lst xs)∧∃vs,w.H (w.μ n)=some (.lst vs)∧RDs w xs vs:=
 ⟨Of h,R.cell n _ (Of h)⟩
theorem RS.listL{w:Vw}{M:Z1}{n:Nat}{xs:List D}(R:RS w M)(h:Zg M n=some xs):n<w.n∧∃vs,SqL w.K w.H (w.μ n) vs∧RDs w xs vs∧True:=by
 unfold Zg at h
 split at h
 ·rename_i ys e
  cases h
  obtain⟨vs,q,r⟩:=R.cell n _ e
  exact⟨by rw[R.len];exact(List.getElem?_eq_some_iff.mp e).1,vs,.inl (.inl q),r,trivial⟩
 ·rename_i ys e
  cases h
  obtain⟨vs,q,r⟩:=R.cell n _ e
  exact⟨by rw[R.len];exact(List.getElem?_eq_some_iff.mp e).1,vs,q.sq,r,trivial⟩
 ·cases h
theorem Zr4{M:Z1}{n:Nat}{xs:List (Key×D)}(h:Zd M n=some xs):Cb M n=some xs:=by
 unfold Cb;rw[We h]
theorem RS.dictF{w:Vw}{M:Z1}{n:Nat}{xs:List (Key×D)}(R:RS w M)(h:Cb M n=some xs):∃vs,Rd w.H (w.μ n) (.dK vs)∧RKV w xs vs:=by
 unfold Cb at h
 split at h
 ·rename_i ys e
  cases h
  obtain⟨vs,q1,q2⟩:=R.cell n _ e
  exact⟨vs,.inl q1,q2⟩
 ·rename_i ys e
  cases h
  obtain⟨o,vs,q1,q2⟩:=R.cell n _ e
  exact⟨vs,.inr ⟨o,q1⟩,q2⟩
 ·cases h
theorem RS.dict{w:Vw}{M:Z1}{n:Nat}{xs:List (Key×D)}(R:RS w M)(h:Zd M n=some xs):M[n]?=some (.dct xs)∧∃vs,w.H (w.μ n)=some (.dK vs)∧RKV w xs vs:=
 ⟨We h,R.cell n _ (We h)⟩
theorem Wg{w:Vw}{M:Z1}{p:Addr}{xs:List D}{vs:List V}(R:RS w M)(hp:w.H p=none)(r:RDs w xs vs):Ext w (w.push p (.lst vs))∧RS (w.push p (.lst vs)) (M++[.lst xs])∧RD (w.push p (.lst vs)) (.ref M.length) (.ref p):=by
 refine⟨Tf hp,R.push hp ⟨vs,Zv,r.ext (Tf hp)⟩,Zy.mpr ⟨?_,?_⟩⟩
 ·show M.length<w.n+1
  rw[R.len];omega
 ·show V.ref p=V.ref (if M.length=w.n then p else w.μ M.length)
  rw[if_pos R.len.symm]
theorem R8{w:Vw}{M:Z1}{p:Addr}{xs:List (Key×D)}{vs:List (Key×V)}(R:RS w M)(hp:w.H p=none)(r:RKV w xs vs):Ext w (w.push p (.dK vs))∧RS (w.push p (.dK vs)) (M++[.dct xs])∧RD (w.push p (.dK vs)) (.ref M.length) (.ref p):=by
 refine⟨Tf hp,R.push hp ⟨vs,Zv,r.ext (Tf hp)⟩,Zy.mpr ⟨?_,?_⟩⟩
 ·show M.length<w.n+1
  rw[R.len];omega
 ·show V.ref p=V.ref (if M.length=w.n then p else w.μ M.length)
  rw[if_pos R.len.symm]
theorem Rg{w:Vw}{M:Z1}{p:Addr}{xs:List D}{vs:List V}(R:RS w M)(hp:w.H p=none)(r:RDs w xs vs):Ext w (w.alloc p (.tup vs))∧RS (w.alloc p (.tup vs)) M∧RD (w.alloc p (.tup vs)) (.tup xs) (.ref p):=
 ⟨V5 hp,R.alloc hp,Xe.mpr ⟨p,vs,rfl,Zv,r.ext (V5 hp)⟩⟩
theorem Vk{w:Vw}{M:Z1}{n:Nat}{us vs:List V}{ys xs:List D}(R:RS w M)(hn:M[n]?=some (.lst ys))(h:w.H (w.μ n)=some (.lst us))(r:RDs w xs vs):Ext w (w.alloc (w.μ n) (.lst vs))∧RS (w.alloc (w.μ n) (.lst vs)) (M.set n (.lst xs)):=
 ⟨Wa h rfl,R.write hn rfl rfl h rfl ⟨vs,Zv,r.ext (Wa h rfl)⟩⟩
theorem Px{w:Vw}{M:Z1}{n:Nat}{us vs:List (Key×V)}{ys xs:List (Key×D)}(R:RS w M)(hn:M[n]?=some (.dct ys))(h:w.H (w.μ n)=some (.dK us))(r:RKV w xs vs):Ext w (w.alloc (w.μ n) (.dK vs))∧RS (w.alloc (w.μ n) (.dK vs)) (M.set n (.dct xs)):=
 ⟨Wa h rfl,R.write hn rfl rfl h rfl ⟨vs,Zv,r.ext (Wa h rfl)⟩⟩
section
variable{X:Cx}{w0:Vw}
theorem Wy{f:Value→Value→Sem Value}{g:Int→Int→V}{o:D→D→Z1→DK→Prop}{C:Int→Int→Prop}{k:Int→Int→D}(h:OpR X f (rI C g))(hk:∀w i j,RD w (k i j) (g i j))
  {pins:List (Addr×Obj)} {s:Shared} {σ:L2.St} {x y:V} {v u:Value} {Q:VK} {w:Vw} {M:Z1} {QD:DK} {i j:Int} (I:Inv X pins σ w.H s) (rx:RelV x v) (ry:RelV y u) (R:RS w M) (hx:RD w (.int i) x) (hy:RD w (.int j) y)
  (hc:C i j) (q:QD (k i j) M) (a:Aft w QD Q):wpAny (model X.prog X.w) X.A (f v u) (EP X pins σ Q) X.xe s:=by
 cases Zc.mp hx
 cases Zc.mp hy
 exact h pins s σ w.H _ _ v u Q I rx ry ⟨i,j,rfl,rfl,hc,a _ w _ M (Ext.refl w) R (hk w i j) q⟩
noncomputable def opOf:Op→Operator
 | .add=> .Add | .sub=> .Sub | .mul=> .Mult | .fdiv=> .FloorDiv | .mod=> .Mod | .pow=> .Pow | .band=> .BitAnd | .bxor=> .BitXor
theorem Zb2{f:Value→Value→Sem Value}{g:Int→Int→V}(h:OpR X f (rI0 g)):OpR X f (rI (fun _ _=>True) g):=fun pins s σ H x y v u Q I rx ry zz71=>by obtain⟨i,j,e1,e2,_,q⟩:=zz71;exact h pins s σ H x y v u Q I rx ry ⟨i,j,e1,e2,q⟩
theorem RDs.rep{w:Vw}{xs:List D}{vs:List V}(h:RDs w xs vs):∀n:Nat,RDs w (List.replicate n xs).flatten (List.replicate n vs).flatten
 | 0=>RDs.nil w
 | n+1=>by
  rw[List.replicate_succ,List.replicate_succ,List.flatten_cons,List.flatten_cons]
  exact h.append (RDs.rep h n)
theorem Zd9(op:Op):OpR X (binaryOp (opOf op)) (rF w0 (opD op)):=by
 intro pins s σ H x y v u Q I rx ry h
 obtain⟨w,M,dx,dy,QD,rfl,e0,R,hx,hy,g,a⟩:=h
 have ri:∀w (i:Int),RD w (.int i) (.int i):=fun w i=>Zc.mpr rfl
 cases op with
 | add=>
  cases dx with
  | int i=>
   obtain⟨j,rfl,g2⟩:=Ww g;clear g;have g:=g2
   exact Wy (o:=opD .add) (C:=fun _ _=>True) (k:=fun i j=> .int (i+j)) (Zb2 Y28) (fun w i j=>ri w _) I rx ry R hx hy trivial g a
  | str z=>
   cases dy with
   | str z2=>
    cases Y7.mp hx;cases Y7.mp hy
    exact B6 pins s σ w.H _ _ v u Q I rx ry ⟨_,_,rfl,rfl,g.1,a _ w _ M (Ext.refl w) R (Y7.mpr rfl) g.2⟩
   | _=>exact False.elim g
  | tup l=>
   obtain⟨l2,rfl,g2⟩:=Z77 g;clear g;have g:=g2
   obtain⟨a1,vs1,rfl,h1,r1⟩:=Xe.mp hx
   obtain⟨a2,vs2,rfl,h2,r2⟩:=Xe.mp hy
   obtain⟨g1,g2,g3⟩:=g
   refine Zq7 pins s σ w.H _ _ v u Q I rx ry ⟨a1,a2,vs1,vs2,rfl,rfl,.of h1,.of h2,?_,by rw[r1.length,r2.length];exact g2,fun z=>?_,fun _ p hp=>?_⟩
   ·intro z;subst z;have:=r1.length;simp at this;exact g1 (List.length_eq_zero_iff.mp this.symm)
   ·subst z
    cases r2.empty
    rw[List.append_nil] at g3
    exact a _ w _ M (Ext.refl w) R hx g3
   ·obtain⟨x1,x2,x3⟩:=Rg R hp (r1.append r2)
    exact a _ _ _ M x1 x2 x3 g3
  | ref n=>
   obtain⟨n2,rfl,g2⟩:=W7 g;clear g;have g:=g2
   obtain⟨h1,rfl⟩:=Zy.mp hx
   obtain⟨h2,rfl⟩:=Zy.mp hy
   obtain⟨xs,ys,g1,g2,g3,g4⟩:=g
   obtain⟨_,vs1,q1,r1⟩:=R.list g1
   obtain⟨_,vs2,q2,r2⟩:=R.list g2
   refine Y03 pins s σ w.H _ _ v u Q I rx ry ⟨_,_,vs1,vs2,rfl,rfl,q1,q2,by rw[r1.length,r2.length];exact g3,fun p hp=>?_⟩
   obtain⟨x1,x2,x3⟩:=Wg R hp (r1.append r2)
   exact a _ _ _ _ x1 x2 x3 g4
  | _=>exact False.elim g
 | mul=>
  cases dx with
  | int i=>
   obtain⟨j,rfl,g2⟩:=Ww g;clear g;have g:=g2
   exact Wy (o:=opD .add) (C:=IntMulOk) (k:=fun i j=> .int (i * j)) Zo1 (fun w i j=>ri w _) I rx ry R hx hy g.1 g.2 a
  | ref n=>
   obtain⟨k,rfl,g2⟩:=Ww g;clear g;have g:=g2
   obtain⟨h1,rfl⟩:=Zy.mp hx
   cases Zc.mp hy
   obtain⟨xs,g1,g2,g3,g4,g5⟩:=g
   obtain⟨_,vs1,q1,r1⟩:=R.list g1
   refine Zz0 pins s σ w.H _ _ v u Q I rx ry ⟨_,_,vs1,rfl,rfl,q1,by omega,by omega,by rw[r1.length];exact g4,fun p hp=>?_⟩
   obtain⟨x1,x2,x3⟩:=Wg R hp (r1.rep _)
   exact a _ _ _ _ x1 x2 x3 g5
  | _=>exact False.elim g
 | sub=>
  obtain⟨i,j,rfl,rfl,g2⟩:=Yl g;clear g;have g:=g2
  exact Wy (o:=opD .add) (C:=fun _ _=>True) (k:=fun i j=> .int (i - j)) (Zb2 Zz7) (fun w i j=>ri w _) I rx ry R hx hy trivial g a
 | fdiv=>
  obtain⟨i,j,rfl,rfl,g2⟩:=Yl g;clear g;have g:=g2
  exact Wy (o:=opD .add) (C:=Z82) (k:=fun i j=> .int (qdiv i j)) Zb9 (fun w i j=>by rw[G9];exact ri w _) I rx ry R hx hy g.1 g.2 a
 | mod=>
  obtain⟨i,j,rfl,rfl,g2⟩:=Yl g;clear g;have g:=g2
  exact Wy (o:=opD .add) (C:=fun _ j=>j≠0) (k:=fun i j=> .int (qmod i j)) Zt4 (fun w i j=>by rw[Qd];exact ri w _) I rx ry R hx hy g.1 g.2 a
 | pow=>
  obtain⟨i,j,rfl,rfl,g2⟩:=Yl g;clear g;have g:=g2
  exact Wy (o:=opD .add) (C:=CPow) (k:=fun i j=> .int (i ^ j.toNat)) Y09 (fun w i j=>ri w _) I rx ry R hx hy g.1 g.2 a
 | band=>
  obtain⟨i,j,rfl,rfl,g2⟩:=Yl g;clear g;have g:=g2
  exact Wy (o:=opD .add) (C:=fun _ _=>True) (k:=fun i j=> .int (Builtin.bitAnd i j)) (Zb2 Y14) (fun w i j=>ri w _) I rx ry R hx hy trivial g a
 | bxor=>
  obtain⟨i,j,rfl,rfl,g2⟩:=Yl g;clear g;have g:=g2
  exact Wy (o:=opD .add) (C:=fun _ _=>True) (k:=fun i j=> .int (Builtin.bitXor i j)) (Zb2 Y27) (fun w i j=>ri w _) I rx ry R hx hy trivial g a
end
def rB(w0:Vw)(g:Z1→D→D→(Bool→Prop)→Prop):R2:=fun x y H Q=>∃w M dx dy QD,w.H=H∧w.K=w0.K∧RS w M∧RD w dx x∧RD w dy y∧g M dx dy QD∧∀b,QD b→Q (.bl b) H
mutual
theorem Z88{w:Vw}{M:Z1}(R:RS w M):∀(da:PyData) {d:D} {v:V},PD M da d→RD w d v→Rep w.K w.H da v
 | .none,d,v,h,r=>by unfold PD at h;subst h;unfold Rep;exact Yi.mp r
 | .bool b,d,v,h,r=>by unfold PD at h;subst h;unfold Rep;exact Xd.mp r
 | .int b,d,v,h,r=>by unfold PD at h;subst h;unfold Rep;exact Zc.mp r
 | .str b,d,v,h,r=>by unfold PD at h;subst h;unfold Rep;exact Y7.mp r
 | .list xs,d,v,h,r=>by
  unfold PD at h
  obtain⟨n,ds,rfl,h1,h2⟩:=h
  obtain⟨_,rfl⟩:=Zy.mp r
  obtain⟨_,vs,q1,q2,_⟩:=R.listL h1
  unfold Rep
  exact⟨_,vs,rfl,q1,Rz R xs h2 q2⟩
 | .tuple xs,d,v,h,r=>by
  unfold PD at h
  obtain⟨ds,rfl,h2⟩:=h
  obtain⟨a,vs,rfl,q1,q2⟩:=Xe.mp r
  unfold Rep
  exact⟨_,vs,rfl,.of q1,Rz R xs h2 q2⟩
 | .dict _,d,v,h,r=>by unfold PD at h;exact h.elim
theorem Rz{w:Vw}{M:Z1}(R:RS w M):∀(xs:List PyData) {ds:List D} {vs:List V},PDs M xs ds→RDs w ds vs→W9 w.K w.H xs vs
 | [],ds,vs,h,r=>by unfold PDs at h;subst h;unfold RDs at r;unfold W9;exact r
 | x::xs,ds,vs,h,r=>by
  unfold PDs at h
  obtain⟨d,r',rfl,h1,h2⟩:=h
  unfold RDs at r
  obtain⟨v,r2,rfl,q1,q2⟩:=r
  unfold W9
  exact⟨v,r2,rfl,Z88 R x h1 q1,Rz R xs h2 q2⟩
end
theorem T5{w:Vw}{d:D}{v:V}(f:Xk d=true)(r:RD w d v):Ql v=true:=by
 cases d<;>simp[Xk] at f
 ·cases Yi.mp r;rfl
 ·cases Xd.mp r;rfl
 ·cases Zc.mp r;rfl
 ·cases Y7.mp r;rfl
theorem Z83{w:Vw}{d e:D}{v u:V}(f:Xk d=true)(g:Xk e=true)(r:RD w d v)(q:RD w e u):eqV v u=eqF d e:=by
 cases d<;>simp[Xk] at f
 all_goals (cases e<;>simp[Xk] at g)
 all_goals first
  |(first | cases Yi.mp r | cases Xd.mp r | cases Zc.mp r | cases Y7.mp r)
 all_goals first
  |(first | cases Yi.mp q | cases Xd.mp q | cases Zc.mp q | cases Y7.mp q)
 all_goals rfl
theorem Zm3{w:Vw}{x:D}{v:V}(f:Xk x=true)(r:RD w x v):∀{ds:List D} {vs:List V},ds.all Xk=true→RDs w ds vs→inV v vs=inD x ds∧vs.all Ql=true
 | [],vs,_,h=>by unfold RDs at h;subst h;exact⟨rfl,rfl⟩
 | d::ds,vs,g,h=>by
  unfold RDs at h
  obtain⟨v1,r1,rfl,h1,h2⟩:=h
  simp only[List.all_cons,Bool.and_eq_true] at g
  obtain⟨i1,i2⟩:=Zm3 f r g.2 h2
  refine⟨?_,by simp only[List.all_cons,Bool.and_eq_true];exact⟨T5 g.1 h1,i2⟩⟩
  unfold inV inD at *
  rw[List.any_cons,List.any_cons,Z83 g.1 f h1 r,i1]
theorem RKV.val{w:Vw}:∀{ds:List (Key×D)} {vs:List (Key×V)} (k:Key),RKV w ds vs→(valD ds k=none∧valV vs k=none)∨∃d v,valD ds k=some d∧valV vs k=some v∧RD w d v
 | [],vs,k,h=>by unfold RKV at h;subst h;exact .inl ⟨rfl,rfl⟩
 |(k',d)::ds,vs,k,h=>by
  unfold RKV at h
  obtain⟨v,r,rfl,h1,h2⟩:=h
  by_cases e:k'=k
  ·exact .inr ⟨d,v,by simp[valD,List.find?_cons,e],by simp[valV,List.find?_cons,e],h1⟩
  ·have:=RKV.val k h2
   simpa[valD,valV,List.find?_cons,e] using this
theorem RKV.length{w:Vw}:∀{ds:List (Key×D)} {vs:List (Key×V)},RKV w ds vs→vs.length=ds.length
 | [],vs,h=>by unfold RKV at h;subst h;rfl
 |(k',d)::ds,vs,h=>by
  unfold RKV at h
  obtain⟨v,r,rfl,h1,h2⟩:=h
  simp[RKV.length h2]
theorem RKV.any{w:Vw}(k:Key):∀{ds:List (Key×D)} {vs:List (Key×V)},RKV w ds vs→(vs.any fun kv=>decide (kv.1=k))=(ds.any fun kv=>decide (kv.1=k))
 | [],vs,h=>by unfold RKV at h;subst h;rfl
 |(k',d)::ds,vs,h=>by
  unfold RKV at h
  obtain⟨v,r,rfl,h1,h2⟩:=h
  simp[RKV.any k h2]
theorem RKV.repl{w:Vw}{k:Key}{d:D}{v:V}(q:RD w d v):∀{ds:List (Key×D)} {vs:List (Key×V)},RKV w ds vs→RKV w (ds.map fun kv=>if kv.1=k then(kv.1,d) else kv) (vs.map fun kv=>if kv.1=k then(kv.1,v) else kv)
 | [],vs,h=>by unfold RKV at h;subst h;unfold RKV;rfl
 |(k',d')::ds,vs,h=>by
  unfold RKV at h
  obtain⟨v',r,rfl,h1,h2⟩:=h
  simp only[List.map_cons]
  by_cases e:k'=k
  ·rw[if_pos e,if_pos e]
   unfold RKV
   exact⟨v,_,rfl,q,RKV.repl q h2⟩
  ·rw[if_neg e,if_neg e]
   unfold RKV
   exact⟨v',_,rfl,h1,RKV.repl q h2⟩
theorem RKV.snoc{w:Vw}{k:Key}{d:D}{v:V}(q:RD w d v):∀{ds:List (Key×D)} {vs:List (Key×V)},RKV w ds vs→RKV w (ds++[(k,d)]) (vs++[(k,v)])
 | [],vs,h=>by unfold RKV at h;subst h;unfold RKV;exact⟨v,[],rfl,q,by unfold RKV;rfl⟩
 |(k',d')::ds,vs,h=>by
  unfold RKV at h
  obtain⟨v',r,rfl,h1,h2⟩:=h
  show RKV w ((k',d')::(ds++[(k,d)])) _
  unfold RKV
  exact⟨v',_,rfl,h1,RKV.snoc q h2⟩
theorem RKV.put{w:Vw}{k:Key}{d:D}{v:V}(q:RD w d v){ds:List (Key×D)}{vs:List (Key×V)}(h:RKV w ds vs):RKV w (putD ds k d) (putK vs k v):=by
 unfold putD putK
 rw[h.any k]
 split
 ·exact h.repl q
 ·exact h.snoc q
theorem Q8{w:Vw}{d:D}{k:Key}{v:V}(h:keyD d=some k)(r:RD w d v):v=kV k:=by
 cases d<;>simp[keyD] at h
 ·subst h;exact Zc.mp r
 ·subst h;exact Y7.mp r
section
variable{X:Cx}{w0:Vw}
noncomputable def cmOf:Cm→CmpOp
 | .lt=> .Lt | .le=> .LtE | .gt=> .Gt | .ge=> .GtE | .eq=> .Eq | .ne=> .NotEq | .is=> .Is | .isin=> .In | .notin=> .NotIn
theorem Zy0(hu:X.A.units+64<cLine):OpR X (compareOp .NotEq) (rEqD X.K true):=by
 intro pins s σ H x y v u Q I rx ry h
 obtain⟨da,db,h1,h2,h3,h4,h5,q⟩:=h
 obtain⟨as,q1⟩:=Rep.reads I da x v h1 rx
 obtain⟨bs,q2⟩:=Rep.reads I db y u h2 ry
 exact PySem.SeqAt.compareNe_reads q1 q2 h3 h4 (by omega) ⟨.bl _,H,I,rfl,q⟩
theorem Jw{w:Vw}{pins:List (Addr×Obj)}{σ:L2.St}{s:Shared}{A:Around}{b:List (Key×D)}{vb:List (Key×V)}{ub:List (Key×Value)}(rb:RKV w b vb)(kb:KV vb ub)(fb:(b.all fun kv=>Xk kv.2)=true):
  ∀{a:List (Key×D)} {va:List (Key×V)} {ua:List (Key×Value)},(a.all fun kv=>Xk kv.2)=true→RKV w a va→KV va ua→PySem.W.KeqHits A s ub ua (a.all fun kv=>match valD b kv.1 with
   | some y=>eqF kv.2 y
   | none=>false)
 | [],va,ua,_,h,k=>by
  unfold RKV at h;subst h
  cases k
  exact .nil
 |(k0,d)::a,va,ua,f,h,k=>by
  unfold RKV at h
  obtain⟨v,r,rfl,h1,h2⟩:=h
  simp only[List.all_cons,Bool.and_eq_true] at f
  cases k with
  | @cons _ q _ ur hk kr=>
   obtain⟨k1,u⟩:=q
   obtain⟨e1,e2⟩:=hk
   dsimp only at e1 e2
   subst e1
   have ih:=Jw (A:=A) (s:=s) (pins:=pins) (σ:=σ) rb kb fb f.2 h2 kr
   rw[List.all_cons]
   rcases rb.val k0 with⟨n1,n2⟩ | ⟨y,vy,n1,n2,n3⟩
   ·have hz:=kb.val k0
    rw[n2] at hz
    have hz':valueAt ub k0=none:=RelO.none_of hz
    simp only[n1,Bool.false_and]
    exact .miss hz'
   ·have hz:=kb.val k0
    rw[n2] at hz
    obtain⟨uy,ey,ry⟩:=hz.some_of
    have fy:Xk y=true:=by
     have hm:(k0,y)∈b:=by
      unfold valD at n1
      obtain⟨p,hp,e⟩:=Option.map_eq_some_iff.mp n1
      have:=List.find?_some hp
      have hk:p.1=k0:=of_decide_eq_true this
      have:=List.mem_of_find?_eq_some hp
      rw[←e,←hk];exact this
     exact(List.all_eq_true.mp fb) _ hm
    simp only[n1]
    refine .hit ey ?_ ih
    rw[←Z83 f.1 fy h1 n3]
    exact Zl7 e2 ry (T5 f.1 h1) (T5 fy n3)
theorem Fb(hK:X.K=w0.K)(hu:X.A.units+64<cLine)(neg:Bool):OpR X (compareOp (if neg then .NotEq else .Eq)) (rB w0 fun M x y Q=>eqD M x y fun b=>Q (if neg then !b else b)):=by
 intro pins s σ H x y v u Q I rx ry h
 obtain⟨w,M,dx,dy,QD,rfl,e0,R,hx,hy,g,a⟩:=h
 have key:∀b:Bool,(scal x y=true∧decide (x=y)=b)→QD (if neg then !b else b)→wpAny (model X.prog X.w) X.A (compareOp (if neg then .NotEq else .Eq) v u) (EP X pins σ Q) X.xe s:=by
  rintro b ⟨h1,h2⟩ hq
  cases neg with
  | true=>exact Y82 pins s σ w.H x y v u Q I rx ry ⟨h1,by rw[h2];exact a _ hq⟩
  | false=>exact Y67 pins s σ w.H x y v u Q I rx ry ⟨h1,by rw[h2];exact a _ hq⟩
 unfold eqD at g
 split at g
 ·cases Zc.mp hx;cases Zc.mp hy
  exact key _ ⟨rfl,by simp⟩ g
 ·cases Y7.mp hx;cases Y7.mp hy
  exact key _ ⟨rfl,by simp⟩ g
 ·cases Xd.mp hx;cases Xd.mp hy
  exact key _ ⟨rfl,by simp⟩ g
 ·cases Yi.mp hx;cases Yi.mp hy
  exact key _ ⟨rfl,by simp⟩ g
 ·cases Yi.mp hx;cases Zc.mp hy
  exact key _ ⟨rfl,by simp⟩ g
 ·cases Zc.mp hx;cases Yi.mp hy
  exact key _ ⟨rfl,by simp⟩ g
 ·cases Yi.mp hx;cases Xd.mp hy
  exact key _ ⟨rfl,by simp⟩ g
 ·cases Xd.mp hx;cases Yi.mp hy
  exact key _ ⟨rfl,by simp⟩ g
 ·cases Yi.mp hx;cases Y7.mp hy
  exact key _ ⟨rfl,by simp⟩ g
 ·cases Y7.mp hx;cases Yi.mp hy
  exact key _ ⟨rfl,by simp⟩ g
 ·cases Zc.mp hx;cases Y7.mp hy
  exact key _ ⟨rfl,by simp⟩ g
 ·cases Y7.mp hx;cases Zc.mp hy
  exact key _ ⟨rfl,by simp⟩ g
 ·cases Xd.mp hx;cases Y7.mp hy
  exact key _ ⟨rfl,by simp⟩ g
 ·cases Y7.mp hx;cases Xd.mp hy
  exact key _ ⟨rfl,by simp⟩ g
 ·rcases g with⟨da,db,p1,p2,p3,p4,p5,g⟩ | ⟨m,n,ka,kb,rfl,rfl,p1,p2,f1,f2,g⟩
  ·have q1:=Z88 R da p1 hx
   have q2:=Z88 R db p2 hy
   rw[e0,←hK] at q1 q2
   cases neg with
   | true=>exact Zy0 hu pins s σ w.H x y v u Q I rx ry ⟨da,db,q1,q2,p3,p4,p5,a _ g⟩
   | false=>exact Y42 hu pins s σ w.H x y v u Q I rx ry ⟨da,db,q1,q2,p3,p4,p5,a _ g⟩
  ·obtain⟨_,rfl⟩:=Zy.mp hx
   obtain⟨_,rfl⟩:=Zy.mp hy
   obtain⟨_,va,ha,ra⟩:=R.dict p1
   obtain⟨_,vb,hb,rb⟩:=R.dict p2
   cases (show v=Value.ref (w.μ m) from rx)
   cases (show u=Value.ref (w.μ n) from ry)
   obtain⟨_,s1,ua,k1,d1⟩:=Bd I.hok ha
   obtain⟨_,s2,ub,k2,d2⟩:=Bd I.hok hb
   have hits:=Jw (A:=X.A.in1) (s:=s) (pins:=pins) (σ:=σ) rb k2 f2 f1 ra k1
   have hl:(ua.length==ub.length&&(ka.all fun kv=>match valD kb kv.1 with
    | some y=>eqF kv.2 y
    | none=>false))=eqKV ka kb:=by
    unfold eqKV
    rw[←k1.length,←k2.length,ra.length,rb.length]
    all_goals rfl
   cases neg with
   | true=>exact PySem.W.keq_ne s1 s2 d1 d2 (by omega) (fun _=>hits) ⟨.bl _,w.H,I,rfl,by rw[hl];exact a _ g⟩
   | false=>exact PySem.W.keq_eq s1 s2 d1 d2 (by omega) (fun _=>hits) ⟨.bl _,w.H,I,rfl,by rw[hl];exact a _ g⟩
theorem Gw(hK:X.K=w0.K)(hu:X.A.units+64<cLine)(neg:Bool):OpR X (compareOp (if neg then .NotIn else .In)) (rB w0 fun M x y Q=>inQ M x y fun b=>Q (if neg then !b else b)):=by
 intro pins s σ H x y v u Q I rx ry h
 obtain⟨w,M,dx,dy,QD,rfl,e0,R,hx,hy,g,a⟩:=h
 have seq:∀{p:Addr} {vs:List V} {xs:List D},y= .ref p→(SqL X.K w.H p vs∨SqT X.K w.H p vs)→RDs w xs vs→Xk dx=true→xs.all Xk=true→QD (if neg then !inD dx xs else inD dx xs)→
   wpAny (model X.prog X.w) X.A (compareOp (if neg then .NotIn else .In) v u) (EP X pins σ Q) X.xe s:=by
  intro p vs xs ey q1 q2 g2 g3 g4
  obtain⟨i1,i2⟩:=Zm3 g2 hx g3 q2
  cases neg with
  | true=>exact Ox pins s σ w.H _ _ v u Q I rx ry ⟨p,vs,ey,q1,T5 g2 hx,i2,by rw[i1];exact a _ g4⟩
  | false=>exact Z89 pins s σ w.H _ _ v u Q I rx ry ⟨p,vs,ey,q1,T5 g2 hx,i2,by rw[i1];exact a _ g4⟩
 unfold inQ at g
 split at g
 ·cases Y7.mp hx;cases Y7.mp hy
  cases neg with
  | true=>exact N1 pins s σ w.H _ _ v u Q I rx ry ⟨_,_,rfl,rfl,a _ g⟩
  | false=>exact Z87 pins s σ w.H _ _ v u Q I rx ry ⟨_,_,rfl,rfl,a _ g⟩
 ·obtain⟨_,rfl⟩:=Zy.mp hy
  rcases g with⟨xs,g1,g2,g3,g4⟩ | ⟨kvs,k,g1,g2,g3⟩
  ·obtain⟨_,vs,q1,q2,_⟩:=R.listL g1
   rw[e0,←hK] at q1
   exact seq rfl (.inl q1) q2 g2 g3 g4
  ·obtain⟨_,vs,q1,q2⟩:=R.dict g1
   cases Q8 g2 hx
   cases (show u=Value.ref _ from ry)
   have hv:valV vs k=none∧valD kvs k=none∨∃d v',valD kvs k=some d∧valV vs k=some v':=by
    rcases q2.val k with⟨n1,n2⟩ | ⟨d,v',n1,n2,_⟩
    ·exact .inl ⟨n2,n1⟩
    ·exact .inr ⟨d,v',n1,n2⟩
   have hb:(valV vs k).isSome=(valD kvs k).isSome:=by
    rcases hv with⟨n1,n2⟩ | ⟨d,v',n1,n2⟩
    ·rw[n1,n2];rfl
    ·rw[n1,n2];rfl
   have hu1:X.A.units+1<cLine:=by omega
   cases neg with
   | true=>exact Zn8 hu1 I (DGet.k (k:=k) q1) rx fun s' I'=>⟨.bl (!(valV vs k).isSome),w.H,I',rfl,by rw[hb];exact a _ g3⟩
   | false=>exact d_in hu1 I (DGet.k (k:=k) q1) rx fun s' I'=>⟨.bl (valV vs k).isSome,w.H,I',rfl,by rw[hb];exact a _ g3⟩
 ·obtain⟨p,vs,e,q1,q2⟩:=Xe.mp hy
  exact seq e (.inr (.of q1)) q2 g.1 g.2.1 g.2.2
 ·obtain⟨p,vs,e,q1,q2⟩:=Ol.mp hy
  rw[e0,←hK] at q1
  exact seq e (.inr q1) q2 g.1 g.2.1 g.2.2
 ·exact g.elim
theorem Vh(hK:X.K=w0.K)(hu:X.A.units+64<cLine)(op:Cm):OpR X (compareOp (cmOf op)) (rB w0 fun M=>cmD M op):=by
 intro pins s σ H x y v u Q I rx ry h
 obtain⟨w,M,dx,dy,QD,rfl,e0,R,hx,hy,g,a⟩:=h
 cases op with
 | lt=>
  obtain⟨i,j,rfl,rfl,g2⟩:=Yl g;clear g;have g:=g2
  cases Zc.mp hx;cases Zc.mp hy
  exact Y98 pins s σ w.H _ _ v u Q I rx ry ⟨_,_,rfl,rfl,a _ g⟩
 | le=>
  obtain⟨i,j,rfl,rfl,g2⟩:=Yl g;clear g;have g:=g2
  cases Zc.mp hx;cases Zc.mp hy
  exact Y71 pins s σ w.H _ _ v u Q I rx ry ⟨_,_,rfl,rfl,a _ g⟩
 | gt=>
  obtain⟨i,j,rfl,rfl,g2⟩:=Yl g;clear g;have g:=g2
  cases Zc.mp hx;cases Zc.mp hy
  exact Y68 pins s σ w.H _ _ v u Q I rx ry ⟨_,_,rfl,rfl,a _ g⟩
 | ge=>
  obtain⟨i,j,rfl,rfl,g2⟩:=Yl g;clear g;have g:=g2
  cases Zc.mp hx;cases Zc.mp hy
  exact Y96 pins s σ w.H _ _ v u Q I rx ry ⟨_,_,rfl,rfl,a _ g⟩
 | eq=>
  exact Fb hK hu false pins s σ w.H x y v u Q I rx ry ⟨w,M,_,_,QD,rfl,e0,R,hx,hy,g,a⟩
 | ne=>
  exact Fb hK hu true pins s σ w.H x y v u Q I rx ry ⟨w,M,_,_,QD,rfl,e0,R,hx,hy,g,a⟩
 | is=>
  cases dy with
  | non=>
   cases dx with
   | non=>
    cases Yi.mp hx;cases Yi.mp hy
    exact Q4 pins s σ w.H _ _ v u Q I rx ry ⟨rfl,a _ g⟩
   | bl b=>
    cases Xd.mp hx;cases Yi.mp hy
    exact Q4 pins s σ w.H _ _ v u Q I rx ry ⟨rfl,a _ g⟩
   | int i=>
    cases Zc.mp hx;cases Yi.mp hy
    exact Q4 pins s σ w.H _ _ v u Q I rx ry ⟨rfl,a _ g⟩
   | str z=>
    cases Y7.mp hx;cases Yi.mp hy
    exact Q4 pins s σ w.H _ _ v u Q I rx ry ⟨rfl,a _ g⟩
   | tup l=>
    obtain⟨_,_,rfl,_⟩:=Xe.mp hx;cases Yi.mp hy
    exact Q4 pins s σ w.H _ _ v u Q I rx ry ⟨rfl,a _ g⟩
   | ref n=>
    obtain⟨_,rfl⟩:=Zy.mp hx;cases Yi.mp hy
    exact Q4 pins s σ w.H _ _ v u Q I rx ry ⟨rfl,a _ g⟩
   | exn e C d q=>
    obtain⟨rfl,_⟩:=Ff.mp hx;cases Yi.mp hy
    exact Q4 pins s σ w.H _ _ v u Q I rx ry ⟨rfl,a _ g⟩
   | _=>exact False.elim g
  | _=>exact False.elim g
 | isin=>
  exact Gw hK hu false pins s σ w.H x y v u Q I rx ry ⟨w,M,_,_,QD,rfl,e0,R,hx,hy,g,a⟩
 | notin=>
  exact Gw hK hu true pins s σ w.H x y v u Q I rx ry ⟨w,M,_,_,QD,rfl,e0,R,hx,hy,g,a⟩
end
theorem RKV.isEmpty{w:Vw}{ds:List (Key×D)}{vs:List (Key×V)}(h:RKV w ds vs):vs.isEmpty=ds.isEmpty:=by
 cases ds with
 | nil=>unfold RKV at h;subst h;rfl
 | cons p ds=>obtain⟨k,d⟩:=p;unfold RKV at h;obtain⟨v,r,rfl,_⟩:=h;rfl
theorem RDs.isEmpty{w:Vw}{ds:List D}{vs:List V}(h:RDs w ds vs):vs.isEmpty=ds.isEmpty:=by
 cases ds with
 | nil=>unfold RDs at h;subst h;rfl
 | cons d ds=>unfold RDs at h;obtain⟨v,r,rfl,_⟩:=h;rfl
theorem Vz{K:PySem.W.Frag}{w:Vw}{M:Z1}{d:D}{x:V}{QD:Bool→Prop}(hK:w.K=K)(R:RS w M)(r:RD w d x)(g:truD M d QD):∃k,TruV K x w.H k∧QD k:=by
 unfold truD at g
 split at g
 ·cases Yi.mp r;exact⟨_,rfl,g⟩
 ·cases Xd.mp r;exact⟨_,rfl,g⟩
 ·cases Zc.mp r;exact⟨_,rfl,g⟩
 ·cases Y7.mp r;exact⟨_,⟨g.1,rfl⟩,g.2⟩
 ·obtain⟨a,vs,rfl,q1,q2⟩:=Xe.mp r
  exact⟨_,.inr (.inl ⟨vs,.of q1,rfl⟩),by rw[q2.isEmpty];exact g⟩
 ·obtain⟨_,rfl⟩:=Zy.mp r
  rcases g with⟨xs,g1,g2⟩ | ⟨xs,g1,g2⟩
  ·obtain⟨_,vs,q1,q2,_⟩:=R.listL g1
   rw[hK] at q1
   exact⟨_,.inl ⟨vs,q1,rfl⟩,by rw[q2.isEmpty];exact g2⟩
  ·obtain⟨_,vs,q1,q2⟩:=R.dict g1
   exact⟨_,.inr (.inr ⟨vs,q1,rfl⟩),by rw[q2.isEmpty];exact g2⟩
 ·exact g.elim
theorem Ga{w:Vw}{xs:List D}{vs:List V}{i:Int}{d:D}(r:RDs w xs vs)(h:atI xs i=some d):∃v,atI vs i=some v∧RD w d v:=by
 unfold atI at *
 rw[r.length]
 obtain⟨j,h1,h2⟩:=Option.bind_eq_some_iff.mp h
 obtain⟨v,q1,q2⟩:=r.get h2
 exact⟨v,by rw[h1];exact q1,q2⟩
theorem Z39{w:Vw}{xs:List D}{vs:List V}{lo hi:Option Int}(r:RDs w xs vs):RDs w (cutD xs lo hi) (cutV vs lo hi):=by
 unfold cutD cutV
 rw[r.length]
 exact(r.drop _).take _
section
variable{X:Cx}{w0:Vw}
theorem Zq4(hu:X.A.units+1<cLine):IxR X (fun x y H Q=>∃a v,x= .ref a∧DGet H a y (some v)∧Q v H):=by
 intro value slice pins s σ H x y v u Q I rx ry h hs
 obtain⟨a,vv,rfl,g,q⟩:=h
 cases rx
 have hT:=Gg I g
 have h₂:wpAny (model X.prog X.w) X.A (getItem (.ref a) u) (EP X pins σ Q) X.xe s:=Z70 hu I g ry fun w' s3 I3 rw'=>⟨vv,H,I3,rw',q⟩
 unfold subscriptTail
 refine wpAny_bind ?_
 rw[getitemInPython_of_ne hT.not_modules]
 refine wpAny_bind (wpAny_specialOf hT PySem.F.slot_dict_getitem.lookup ?_)
 have fin:wpAny (model X.prog X.w) X.A (subscripted slice false (.ref a) u) (fun r s₃=>wpAny (model X.prog X.w) X.A (letTemporaryGo value (.ref a) r >>=fun _=>pure r) (EP X pins σ Q) X.xe s₃) X.xe s:=by
  rw[hs]
  exact wpAny_operating (wpAny_mono h₂ (fun r s₃ h₃=>wpAny_bind (wpAny_letTemporaryGo (wpAny_pure h₃))) fun _ _ x=>x)
 first
  | exact wpAny_pure (wpAny_bind fin)
  | exact wpAny_bind (wpAny_pure (wpAny_bind fin))
  | exact wpAny_bind fin
def rX(w0:Vw):R2:=fun x y H Q=>∃w M dx dy QD,w.H=H∧w.K=w0.K∧RS w M∧RD w dx x∧RD w dy y∧ixD M dx dy QD∧∀d v,QD d→RD w d v→Q v H
theorem Zf8(hK:X.K=w0.K)(hu:X.A.units+64<cLine):IxR X (rX w0):=by
 intro value slice pins s σ H x y v u Q I rx ry h hs
 obtain⟨w,M,dx,dy,QD,rfl,e0,R,hx,hy,g,a⟩:=h
 unfold ixD at g
 split at g
 ·obtain⟨_,rfl⟩:=Zy.mp hx
  rcases g with⟨xs,i,d,rfl,g1,g2,g3⟩ | ⟨kvs,k,d,g1,g2,g3,g4⟩
  ·cases Zc.mp hy
   obtain⟨_,vs,q1,q2,_⟩:=R.listL g1
   rw[e0,←hK] at q1
   obtain⟨vv,z1,z2⟩:=Ga q2 g2
   exact Zw2 value slice pins s σ w.H _ _ v u Q I rx ry ⟨_,vs,i,vv,rfl,rfl,q1,z1,a _ _ g3 z2⟩ hs
  ·obtain⟨vs,q1,q2⟩:=R.dictF g1
   cases Q8 g2 hy
   rcases q2.val k with⟨n1,n2⟩ | ⟨d',v',n1,n2,n3⟩
   ·rw[n1] at g3;cases g3
   ·rw[n1] at g3;cases g3
    refine Zq4 (by omega) value slice pins s σ w.H _ _ v u Q I rx ry ⟨_,v',rfl,?_,a _ _ g4 n3⟩ hs
    have:DGet w.H (w.μ _) (kV k) (valV vs k):= .inl ⟨vs,k,q1,rfl,rfl⟩
    rw[n2] at this
    exact this
 ·cases Zc.mp hy
  obtain⟨p,vs,rfl,q1,q2⟩:=Xe.mp hx
  obtain⟨d,g1,g2⟩:=g
  obtain⟨vv,z1,z2⟩:=Ga q2 g1
  exact Zl3 value slice pins s σ w.H _ _ v u Q I rx ry ⟨_,vs,_,vv,rfl,rfl,.of q1,z1,a _ _ g2 z2⟩ hs
 ·cases Zc.mp hy
  obtain⟨p,vs,rfl,q1,q2⟩:=Ol.mp hx
  rw[e0,←hK] at q1
  obtain⟨d,g1,g2⟩:=g
  obtain⟨vv,z1,z2⟩:=Ga q2 g1
  exact Zl3 value slice pins s σ w.H _ _ v u Q I rx ry ⟨_,vs,_,vv,rfl,rfl,q1,z1,a _ _ g2 z2⟩ hs
 ·cases Zc.mp hy;cases Y7.mp hx
  obtain⟨g0,c,g1,g2⟩:=g
  exact Zx1 value slice pins s σ w.H _ _ v u Q I rx ry ⟨_,_,c,rfl,rfl,g0,g1,a _ _ g2 (Y7.mpr rfl)⟩ hs
 ·exact g.elim
theorem Y35:SlR X (fun x lo hi H Q=>∃z,x= .str z∧z.length≤sizeLine∧Q (.str (Txt.slice z lo hi)) H):=by
 intro pins s σ H x v vl vu lo hi sl Q I rx hs pl pu h
 obtain⟨z,rfl,hz,q⟩:=h
 obtain⟨t,rfl⟩:=rx
 have key:∀l u:Option (Int×Tok),l.map (·.1)=lo→u.map (·.1)=hi→vl=partValue l→vu=partValue u→wpAny (model X.prog X.w) X.A (getItem (.str z t) (.ref sl)) (EP X pins σ Q) X.xe s:=by
  intro l u e1 e2 e3 e4
  subst e1 e2 e3 e4
  refine wpAny_getItem_str_slice (l:=l) (u:=u) (st:=none) hs rfl ?_
  exact post_val_or_str ⟨Nat.le_trans (Txt.slice_le z _ _) hz,fun t' k=>⟨.str (Txt.slice z _ _),H,I.tok _,⟨_,rfl⟩,q⟩⟩
 refine⟨"str",_,PySem.F.slot_str_getitem.lookup,typeIs_str _ _ _,?_⟩
 cases pl with
 | none=>
  cases pu with
  | none=>exact key none none rfl rfl rfl rfl
  | int j tj=>exact key none (some (j,tj)) rfl rfl rfl rfl
 | int i ti=>
  cases pu with
  | none=>exact key (some (i,ti)) none rfl rfl rfl rfl
  | int j tj=>exact key (some (i,ti)) (some (j,tj)) rfl rfl rfl rfl
def rSl(w0:Vw):V→Option Int→Option Int→Hp→VK→Prop:=fun x lo hi H Q=>∃w M dx QD,w.H=H∧w.K=w0.K∧RS w M∧RD w dx x∧slD dx lo hi M QD∧Aft w QD Q
theorem Zh5(hK:X.K=w0.K):SlR X (rSl w0):=by
 intro pins s σ H x v vl vu lo hi sl Q I rx hs pl pu h
 obtain⟨w,M,dx,QD,rfl,e0,R,hx,g,a⟩:=h
 unfold slD at g
 split at g
 ·cases Y7.mp hx
  exact Y35 pins s σ w.H _ v vl vu _ _ sl Q I rx hs pl pu ⟨_,rfl,g.1,a _ w _ M (Ext.refl w) R (Y7.mpr rfl) g.2⟩
 ·obtain⟨_,rfl⟩:=Zy.mp hx
  obtain⟨xs,g1,g2⟩:=g
  obtain⟨_,vs,q1,q2,_⟩:=R.listL g1
  rw[e0,←hK] at q1
  refine Zp4 pins s σ w.H _ v vl vu _ _ sl Q I rx hs pl pu ⟨_,vs,rfl,q1,fun p hp=>?_⟩
  obtain⟨x1,x2,x3⟩:=Wg R hp (Z39 (lo:=lo) (hi:=hi) q2)
  exact a _ _ _ _ x1 x2 x3 g2
 ·obtain⟨p,vs,rfl,q1,q2⟩:=Xe.mp hx
  refine Y10 pins s σ w.H _ v vl vu _ _ sl Q I rx hs pl pu ⟨_,vs,rfl,.of q1,by rw[q2.length];exact g.1,fun p hp=>?_⟩
  obtain⟨x1,x2,x3⟩:=Rg R hp (Z39 (lo:=lo) (hi:=hi) q2)
  exact a _ _ _ _ x1 x2 x3 g.2
 ·exact g.elim
def rC(w0:Vw)(g:List D→Z1→DK→Prop):List V→Hp→VK→Prop:=fun xs H Q=>∃w M ds QD,w.H=H∧w.K=w0.K∧RS w M∧RDs w ds xs∧g ds M QD∧Aft w QD Q
noncomputable def bfOf:Bf→Str×Value
 | .len=>("len",.builtin "len") | .isinst=>("isinstance",.builtin "isinstance") | .min2=>("min",.builtin "min") | .max2=>("max",.builtin "max")
 | .list1=>("list",.type "list") | .dict1=>("dict",.type "dict") | .int1=>("int",.type "int")
theorem rds1{w:Vw}{d:D}{xs:List V}(h:RDs w [d] xs):∃v,xs=[v]∧RD w d v:=by
 unfold RDs at h
 obtain⟨v,r,rfl,h1,h2⟩:=h
 unfold RDs at h2
 subst h2
 exact⟨v,rfl,h1⟩
theorem rds2{w:Vw}{d e:D}{xs:List V}(h:RDs w [d,e] xs):∃v u,xs=[v,u]∧RD w d v∧RD w e u:=by
 unfold RDs at h
 obtain⟨v,r,rfl,h1,h2⟩:=h
 obtain⟨u,rfl,h3⟩:=rds1 h2
 exact⟨v,u,rfl,h1,h3⟩
theorem rds0{w:Vw}{xs:List V}(h:RDs w [] xs):xs=[]:=by unfold RDs at h;exact h
theorem Za4{w:Vw}:∀{as:List Addr} {vs:List V},RDs w (as.map D.cls) vs→vs=as.map V.ref
 | [],vs,h=>rds0 h
 | a::r,vs,h=>by
  rw[List.map_cons] at h
  unfold RDs at h
  obtain⟨v,vs',rfl,h1,h2⟩:=h
  rw[Qv.mp h1,Za4 h2]
  rfl
def Y93(K:PySem.W.Frag):List V→Hp→VK→Prop:=fun xs H Q=>∃(e C dx:Addr) (fs:List (Str×V)) (p:Addr) (as:List Addr) (b:Bool),xs=[.ref e,.ref p]∧H e=some (XO e (.ref C) (some dx))∧H dx=some (.xd fs)∧ExcIs K C∧H p=some (.tup (as.map V.ref))∧PySem.W.kitAny K (.ref C) (as.map Value.ref)=some b∧Q (.bl b) H
theorem J9:∀{as:List Addr} {us:List Value},Vals (as.map V.ref) us→us=as.map Value.ref
 | [],us,h=>by cases h;rfl
 | a::r,us,h=>by
  cases h with
  | cons h1 h2=>
   obtain rfl:_=Value.ref a:=h1
   rw[J9 h2]
   rfl
theorem Z18{X:Cx}:Vq X (.builtin "isinstance") (Y93 X.K):=by
 intro pins s σ H xs us Q I r h
 obtain⟨e,C,dx,fs,p,as,b,rfl,he,hd,S,hp,k,q⟩:=h
 obtain⟨u,v,rfl,ru,rv⟩:=J7 r
 obtain rfl:u=Value.ref e:=ru
 obtain rfl:v=Value.ref p:=rv
 obtain⟨oe,od,mA,J,_⟩:=Gz I he hd
 obtain⟨its,r',⟨⟨oc,odd,dat,sl⟩,g1,g2,n,g3⟩,hz⟩:=I.tuple (.of hp)
 cases J9 r'
 dsimp only at g2 g3
 subst g2 g3
 exact PySem.W.kia_tup (Fq S) I.kIn J g1 k (fun z=>nomatch z) fun tk=>⟨.bl b,H,I.tok tk,rfl,q⟩
theorem Zz8{K:PySem.W.Frag}{w:Vw}{M:Z1}{d:D}{x:V}{t:String}(R:RS w M)(r:RD w d x)(h:tyD M d=some t):TyOf K w.H x (.type t):=by
 unfold tyD at h
 split at h
 ·cases h;cases Yi.mp r;exact .non
 ·cases h;cases Xd.mp r;exact .bl _
 ·cases h;cases Zc.mp r;exact .int _
 ·cases h;cases Y7.mp r;exact .str _
 ·cases h;obtain⟨a,vs,rfl,q,_⟩:=Xe.mp r;exact .tup q
 ·obtain⟨_,rfl⟩:=Zy.mp r
  split at h
  ·rename_i e;cases h;obtain⟨vs,q,_⟩:=R.cell _ _ e;exact .lst q
  ·cases h
  ·rename_i e;cases h;obtain⟨vs,q,_⟩:=R.cell _ _ e;exact .dK q
  ·cases h
  ·cases h
 ·cases h
theorem Be:Vq X (.type "dict") (fun xs H Q=>∃a kvs,xs=[V.ref a]∧H a=some (.dK kvs)∧∀p,H p=none→Q (.ref p) (upd H p (.dK kvs))):=by
 intro pins s σ H xs us Q I r h
 obtain⟨a,kvs,rfl,e,q⟩:=h
 obtain⟨u,rfl,ru⟩:=Nc r
 cases ru
 exact Zf3 I (.inl e) fun p s' hp I'=>⟨.ref p,_,I',rfl,q p hp⟩
theorem E5{w:Vw}:∀{ps:List (Key×D)} {vs:List V},RDs w (Vu ps) vs→∃qs,Nm w.K w.H vs qs∧RKV w ps qs
 | [],vs,h=>by
  cases vs with
  | nil=>exact⟨[],trivial,by unfold RKV;rfl⟩
  | cons _ _=>have:=h.length;simp[Vu] at this
 | p::ps,vs,h=>by
  change RDs w (D.tup [kD p.1,p.2]::Vu ps) vs at h
  unfold RDs at h
  obtain⟨v,vr,rfl,r1,r2⟩:=h
  obtain⟨t,us,rfl,q1,q2⟩:=Xe.mp r1
  obtain⟨u1,u2,rfl,s1,s2⟩:=rds2 q2
  obtain⟨qs,h1,h2⟩:=E5 r2
  have e:u1=kV p.1:=by
   cases hk:p.1 with
   | inl i=>rw[hk] at s1;exact Zc.mp s1
   | inr x=>rw[hk] at s1;exact Y7.mp s1
  subst e
  exact⟨(p.1,u2)::qs,⟨⟨t,rfl,.of q1⟩,h1⟩,by unfold RKV;exact⟨u2,qs,rfl,s2,h2⟩⟩
theorem E9{w:Vw}:∀{ps:List (Key×D)} {qs:List (Key×V)} {ds:List (Key×D)} {vs:List (Key×V)},RKV w ps qs→RKV w ds vs→RKV w (ps.foldl (fun m p=>putD m p.1 p.2) ds) (qs.foldl (fun m p=>putK m p.1 p.2) vs)
 | [],qs,ds,vs,h,g=>by unfold RKV at h;subst h;exact g
 | p::ps,qs,ds,vs,h,g=>by
  unfold RKV at h
  obtain⟨v,r,rfl,h1,h2⟩:=h
  rw[List.foldl_cons,List.foldl_cons]
  exact E9 (ps:=ps) (qs:=r) h2 (RKV.put (k:=p.1) h1 g)
noncomputable def S5:Bf→Bool
 | .min2 | .max2 | .dict1=>false
 | _=>true
theorem Z92:Vq X (.type "int") (fun xs H Q=>∃b,xs=[.bl b]∧Q (.int (if b then 1 else 0)) H):=by
 intro pins s σ H xs us Q I r h
 obtain⟨b,rfl,q⟩:=h
 obtain⟨u,rfl,e⟩:=Nc r
 cases e
 exact call_int_bool ⟨.int _,H,I.tok _,⟨_,rfl⟩,q⟩
theorem Zi6(hK:X.K=w0.K)(b:Bf)(hc:X.calm=true∨S5 b=true):Vq X (bfOf b).2 (rC w0 (bfD w0.K b)):=by
 intro pins s σ H xs us Q I r h
 obtain⟨w,M,ds,QD,rfl,e0,R,hx,g,a⟩:=h
 cases b with
 | len=>
  obtain⟨x,rfl,g2⟩:=Tw g;clear g;have g:=g2
  cases x with
  | ref n=>
   obtain⟨v,rfl,r1⟩:=rds1 hx
   obtain⟨_,rfl⟩:=Zy.mp r1
   rcases g with⟨xs,g1,g2⟩ | ⟨xs,g1,g2⟩
   ·obtain⟨_,vs,q1,q2,_⟩:=R.listL g1
    rw[e0,←hK] at q1
    exact Sl pins s σ w.H _ us Q I r ⟨_,vs,rfl,.inl q1,a _ w _ M (Ext.refl w) R (Zc.mpr (by rw[q2.length])) g2⟩
   ·obtain⟨_,vs,q1,q2⟩:=R.dict g1
    exact Z99 pins s σ w.H _ us Q I r ⟨_,vs,rfl,q1,a _ w _ M (Ext.refl w) R (Zc.mpr (by rw[q2.length])) g2⟩
  | tup l=>
   obtain⟨v,rfl,r1⟩:=rds1 hx
   obtain⟨p,vs,rfl,q1,q2⟩:=Xe.mp r1
   exact Sl pins s σ w.H _ us Q I r ⟨_,vs,rfl,.inr (.of q1),a _ w _ M (Ext.refl w) R (Zc.mpr (by rw[q2.length])) g⟩
  | str z=>
   obtain⟨v,rfl,r1⟩:=rds1 hx
   cases Y7.mp r1
   exact Jc pins s σ w.H _ us Q I r ⟨_,rfl,g.1,a _ w _ M (Ext.refl w) R (Zc.mpr rfl) g.2⟩
  | _=>exact False.elim g
 | isinst=>
  obtain⟨x,y,rfl,g2⟩:=Q2 g;clear g;have g:=g2
  obtain⟨v,u,rfl,r1,r2⟩:=rds2 hx
  unfold isD at g
  split at g
  ·obtain⟨b,g1,g2,g3⟩:=g
   obtain⟨rfl,q1,row,q2,q3⟩:=Ff.mp r1
   cases Qv.mp r2
   rw[←hK] at g1 g2
   exact C0 pins s σ w.H _ us Q I r ⟨_,_,_,_,_,_,b,rfl,q1,q2,g1,fun u hu=>hu,g2,a _ w _ M (Ext.refl w) R (Xd.mpr rfl) g3⟩
  ·obtain⟨b,g1,g2,g3⟩:=g
   obtain⟨rfl,q1,row,q2,q3⟩:=Ff.mp r1
   cases Zt0.mp r2
   rw[←hK] at g1 g2
   exact C0 pins s σ w.H _ us Q I r ⟨_,_,_,_,_,_,b,rfl,q1,q2,g1,fun u hu=>hu,g2,a _ w _ M (Ext.refl w) R (Xd.mpr rfl) g3⟩
  ·obtain⟨as,b,rfl,g1,g2,g3⟩:=g
   obtain⟨rfl,q1,row,q2,q3⟩:=Ff.mp r1
   obtain⟨p,vs,rfl,q4,q5⟩:=Xe.mp r2
   cases Za4 q5
   rw[←hK] at g1 g2
   exact Z18 pins s σ w.H _ us Q I r ⟨_,_,_,_,_,_,b,rfl,q1,q2,g1,q4,g2,a _ w _ M (Ext.refl w) R (Xd.mpr rfl) g3⟩
  ·obtain⟨t,b,g1,g2,g3⟩:=g
   cases Zt0.mp r2
   rw[←hK] at g2
   exact Zi5 pins s σ w.H _ us Q I r ⟨_,_,_,b,rfl,Zz8 R r1 g1,g2,a _ w _ M (Ext.refl w) R (Xd.mpr rfl) g3⟩
  ·exact g.elim
 | min2=>
  obtain⟨x,y,rfl,g2⟩:=Q2 g;clear g;have g:=g2
  obtain⟨i,j,rfl,rfl,g2⟩:=Yl g;clear g;have g:=g2
  obtain⟨v,u,rfl,r1,r2⟩:=rds2 hx
  cases Zc.mp r1;cases Zc.mp r2
  exact Bz (hc.resolve_right (by simp[S5])) pins s σ w.H _ us Q I r ⟨_,_,rfl,a _ w _ M (Ext.refl w) R (Zc.mpr rfl) g⟩
 | max2=>
  obtain⟨x,y,rfl,g2⟩:=Q2 g;clear g;have g:=g2
  obtain⟨i,j,rfl,rfl,g2⟩:=Yl g;clear g;have g:=g2
  obtain⟨v,u,rfl,r1,r2⟩:=rds2 hx
  cases Zc.mp r1;cases Zc.mp r2
  exact Z76 (hc.resolve_right (by simp[S5])) pins s σ w.H _ us Q I r ⟨_,_,rfl,a _ w _ M (Ext.refl w) R (Zc.mpr rfl) g⟩
 | list1=>
  obtain⟨x,rfl,g2⟩:=Tw g;clear g;have g:=g2
  obtain⟨v,rfl,r1⟩:=rds1 hx
  obtain⟨xs,g1,g2⟩:=g
  have:∃p vs,v= .ref p∧(SqL X.K w.H p vs∨SqT X.K w.H p vs)∧RDs w xs vs:=by
   rw[hK,←e0]
   unfold Z71 at g1
   split at g1
   ·obtain⟨_,rfl⟩:=Zy.mp r1
    obtain⟨_,vs,q1,q2,_⟩:=R.listL g1
    exact⟨_,vs,rfl,.inl q1,q2⟩
   ·cases g1
    obtain⟨p,vs,rfl,q1,q2⟩:=Xe.mp r1
    exact⟨_,vs,rfl,.inr (.of q1),q2⟩
   ·cases g1
    obtain⟨p,vs,rfl,q1,q2⟩:=Ol.mp r1
    exact⟨_,vs,rfl,.inr q1,q2⟩
   ·cases g1
  obtain⟨p,vs,rfl,q1,q2⟩:=this
  refine N2 pins s σ w.H _ us Q I r ⟨p,vs,rfl,q1,fun l hl=>?_⟩
  obtain⟨x1,x2,x3⟩:=Wg R hl q2
  exact a _ _ _ _ x1 x2 x3 g2
 | dict1=>
  obtain⟨x,rfl,g2⟩:=Tw g;clear g;have g:=g2
  obtain⟨n,rfl,g2⟩:=W7 g;clear g;have g:=g2
  obtain⟨v,rfl,r1⟩:=rds1 hx
  obtain⟨_,rfl⟩:=Zy.mp r1
  rcases g with⟨xs,g1,g2⟩ | ⟨ps,g1,g2,g3⟩
  ·obtain⟨_,vs,q1,q2⟩:=R.dict g1
   refine Be pins s σ w.H _ us Q I r ⟨_,vs,rfl,q1,fun l hl=>?_⟩
   obtain⟨x1,x2,x3⟩:=R8 R hl q2
   exact a _ _ _ _ x1 x2 x3 g2
  ·obtain⟨_,vs,q1,q2,_⟩:=R.listL g1
   obtain⟨qs,z1,z2⟩:=E5 q2
   have hl2:=q2.length
   unfold Vu at hl2
   rw[List.length_map] at hl2
   rw[e0,←hK] at q1 z1
   refine Cq (hc.resolve_right (by simp[S5])) pins s σ w.H _ us Q I r ⟨_,vs,qs,rfl,q1,z1,by omega,fun l hl=>?_⟩
   obtain⟨x1,x2,x3⟩:=R8 R hl (E9 z2 (show RKV w [] [] by unfold RKV;rfl))
   exact a _ _ _ _ x1 x2 x3 g3
 | int1=>
  obtain⟨x,rfl,g2⟩:=Tw g;clear g;have g:=g2
  obtain⟨i,rfl,g2⟩:=Zh3 g;clear g;have g:=g2
  obtain⟨v,rfl,r1⟩:=rds1 hx
  cases Xd.mp r1
  exact Z92 pins s σ w.H _ us Q I r ⟨_,rfl,a _ w _ M (Ext.refl w) R (Zc.mpr rfl) g⟩
end
noncomputable def mtT:Mt→String
 | .append | .pop0=>"list"
 | .get2=>"dict"
noncomputable def mtN:Mt→Str
 | .append=>"append" | .pop0=>"pop" | .get2=>"get"
noncomputable def mtI:Mt→String
 | .append=>"list.append" | .pop0=>"list.pop" | .get2=>"dict.get"
theorem Y07:∀m:Mt,PlainAttrs (mtT m)
 | .append | .pop0=>PySem.F.plainAttrs_list
 | .get2=>PySem.F.plainAttrs_dict
theorem Z06:∀m:Mt,Slot (mtT m) (mtN m) (mtI m)
 | .append=>PySem.F.slot_list_append | .pop0=>PySem.F.slot_list_pop
 | .get2=>PySem.F.slot_dict_get
theorem Y36:∀m:Mt,typeOf (.builtin (mtI m))=pure (.type "method_descriptor")
 | .append=>PySem.F.type_list_append | .pop0=>PySem.F.type_list_pop
 | .get2=>PySem.F.type_dict_get
def rM(w0:Vw)(m:Mt):V→List V→Hp→VK→Prop:=fun x xs H Q=>∃w M dx ds QD,w.H=H∧w.K=w0.K∧RS w M∧RD w dx x∧RDs w ds xs∧mtD m dx ds M QD∧Aft w QD Q
theorem Zm6{w:Vw}{M:Z1}{m:Mt}{d:D}{x:V}(R:RS w M)(r:RD w d x)(h:mtK m d M):tyV w.K (mtT m) x w.H:=by
 have L:∀{n:Nat},RD w (.ref n) x→(Zg M n).isSome=true→tyV w.K "list" x w.H:=by
  intro n r h
  obtain⟨_,rfl⟩:=Zy.mp r
  obtain⟨xs,e⟩:=Option.isSome_iff_exists.mp h
  obtain⟨_,vs,q1,_⟩:=R.listL e
  exact .inl ⟨rfl,vs,q1⟩
 have K:∀{n:Nat},RD w (.ref n) x→(Zd M n).isSome=true→tyV w.K "dict" x w.H:=by
  intro n r h
  obtain⟨_,rfl⟩:=Zy.mp r
  obtain⟨xs,e⟩:=Option.isSome_iff_exists.mp h
  obtain⟨_,vs,q1,_⟩:=R.dict e
  exact .inr (.inr (.inl ⟨rfl,.inl ⟨vs,q1⟩⟩))
 obtain⟨n,rfl,h⟩:=W7 h
 cases m with
 | get2=>exact K r h
 | _=>exact L r h
theorem RDs.dropLast{w:Vw}{xs:List D}{vs:List V}(r:RDs w xs vs):RDs w xs.dropLast vs.dropLast:=by
 rw[List.dropLast_eq_take,List.dropLast_eq_take,r.length]
 exact r.take _
section
variable{X:Cx}{w0:Vw}
theorem Zb4(hK:X.K=w0.K)(hu:X.A.units+64<cLine)(m:Mt):MtR X (mtI m) (rM w0 m):=by
 intro pins s σ H x xs v us Q I rx r h
 obtain⟨w,M,dx,ds,QD,rfl,e0,R,hx,hs,g,a⟩:=h
 obtain⟨n,rfl,g2⟩:=W7 g;clear g;have g:=g2
 cases m with
 | append=>
  obtain⟨x,rfl,g2⟩:=Tw g;clear g;have g:=g2
  obtain⟨_,rfl⟩:=Zy.mp hx
  obtain⟨y,rfl,ry⟩:=rds1 hs
  obtain⟨ds,g1,g2,g3⟩:=g
  obtain⟨hn,vs,q1,q2⟩:=R.list g1
  obtain⟨x1,x2⟩:=Vk R hn q1 (q2.append (RDs.cons ry (RDs.nil w)))
  exact Q5 pins s σ w.H _ _ v us Q I rx r ⟨_,vs,y,rfl,rfl,q1,by rw[q2.length];exact g2,a _ _ _ _ x1 x2 (Yi.mpr rfl) g3⟩
 | get2=>
  obtain⟨x,y,rfl,g2⟩:=Q2 g;clear g;have g:=g2
  obtain⟨_,rfl⟩:=Zy.mp hx
  obtain⟨y,z,rfl,ry,rz⟩:=rds2 hs
  obtain⟨kvs,k,g1,g2,g3⟩:=g
  obtain⟨hn,vs,q1,q2⟩:=R.dict g1
  obtain⟨u,u2,rfl,ru,ru2⟩:=J7 r
  cases (show v=Value.ref _ from rx)
  cases Q8 g2 ry
  refine Zz9 (by omega) I (DGet.k (k:=k) q1) ru ru2 fun w' s' I' rw'=>⟨_,w.H,I',rw',?_⟩
  rcases q2.val k with⟨n1,n2⟩ | ⟨d',v',n1,n2,n3⟩
  ·rw[n1] at g3
   rw[n2]
   exact a _ w _ M (Ext.refl w) R rz g3
  ·rw[n1] at g3
   rw[n2]
   exact a _ w _ M (Ext.refl w) R n3 g3
 | pop0=>
  obtain⟨rfl,g2⟩:=Z66 g;clear g;have g:=g2
  obtain⟨_,rfl⟩:=Zy.mp hx
  cases rds0 hs
  obtain⟨ds,d,g1,g2,g3⟩:=g
  obtain⟨hn,vs,q1,q2⟩:=R.list g1
  obtain⟨y,z1,z2⟩:=q2.get g2
  obtain⟨x1,x2⟩:=Vk R hn q1 q2.dropLast
  exact Y25 pins s σ w.H _ _ v us Q I rx r ⟨_,vs,y,rfl,rfl,q1,by rw[q2.length];exact z1,a _ _ _ _ x1 x2 (z2.ext x1) g3⟩
end
noncomputable def gF(w0:Vw)(tg:List Nat):TG:=fun v σ H Q=>∃w σD M d QD,StOk w0 w σD M σ H∧RD w d v∧tgD tg d σD QD∧∀σ' σD',REnv w σD' σ'→QD σD'→Q σ' H
noncomputable def gAll:List Nat→TGs
 | []=>gNil
 | i::is=>Zz3 (Zb6 i) (gAll is)
theorem Fa{w:Vw}{H:Hp}{Q:L2.St→Hp→Prop}{QD:DEnv→Prop}(k:∀σ' σD',REnv w σD' σ'→QD σD'→Q σ' H):∀(is:List Nat) {ds:List D} {vs:List V} {σ:L2.St} {σD:DEnv},RDs w ds vs→ds.length=is.length→REnv w σD σ→
  QD ((is.zip ds).foldl (fun σ p=>σ.set p.1 (some p.2)) σD)→gAll is vs σ H Q
 | [],ds,vs,σ,σD,r,hl,e,q=>by
  cases List.length_eq_zero_iff.mp hl
  cases rds0 r
  exact⟨rfl,k _ _ e q⟩
 | i::is,ds,vs,σ,σD,r,hl,e,q=>by
  cases ds with
  | nil=>simp at hl
  | cons d ds=>
   unfold RDs at r
   obtain⟨v,vr,rfl,h1,h2⟩:=r
   refine⟨v,vr,rfl,?_⟩
   show gAll is vr (σ.set i (some v)) H Q
   exact Fa k is h2 (by simpa using hl) (e.set i h1) q
section
variable{X:Cx}{w0:Vw}
theorem PG.imp{e:Expr}{t t':TG}(h:PG X e t)(k:∀v σ H Q,t' v σ H Q→t v σ H Q):PG X e t':=fun pins s σ H v u Q I r q=>h pins s σ H v u Q I r (k v σ H Q q)
theorem Y17{i:Nat}{e:Expr}(h:PG X e (Zb6 i)):PG X e (gF w0 [i]):=PG.imp h fun v σ H Q zz72=>by obtain⟨w,σD,M,d,QD,S,r,g,k⟩:=zz72;exact k _ _ (S.env.set i r) g
theorem Zp0{is:List Nat}{e:Expr}(hl:2≤is.length)(h:PG X e (gTup X.K is.length (gAll is))):PG X e (gF w0 is):=PG.imp h fun v σ H Q ⟨w,σD,M,d,QD,S,r,g,k⟩=>by
 unfold tgD at g
 split at g
 ·simp at hl
 ·obtain⟨a,vs,rfl,q1,q2⟩:=Xe.mp r
  obtain⟨g1,g2⟩:=g
  rw[S.heap] at q1
  exact⟨a,vs,rfl,.of q1,by rw[q2.length];exact g1,Fa k is q2 g1 S.env g2⟩
 ·exact g.elim
end
structure Ck where
 N:List Str
 sc:Scope
 FN:List Str
 GN:List Str
 BN:List Str
 loops:Bool
 calm:Bool
 tries:Bool
 raises:List Nat
 cells:Bool
 own:List Str
noncomputable def Gv(scope:Scope):List Str:=(scope.names.filter fun y=>y.2== .cell).map (·.1)
noncomputable def Ck.vis(k:Ck)(x:Str):Bool:=(k.sc.names.lookup x==some .local || k.sc.names.lookup x==some .cell || k.sc.names.lookup x==some .free)&&!(x==("__debug__":Str))&&!(x==("__classdict__":Str))
noncomputable def Ck.glob(k:Ck)(x:Str):Bool:=k.sc.names.lookup x==some .globalImplicit&&!(x==("__debug__":Str))&&!(x==("__name__":Str))
noncomputable def Ck.loc(k:Ck)(x:Str):Bool:=k.sc.names.lookup x==some .local
noncomputable def Ck.locC(k:Ck)(x:Str):Bool:=k.loc x || ((k.cells || k.own.contains x)&&k.sc.names.lookup x==some .cell)
noncomputable def Z64:Expr→Bool
 | .Call (.Name x _) [] [] _=>x !=("super":Str)
 | _=>true
noncomputable def Gn:Expr→Bool
 | .Slice ..=>false
 | _=>true
noncomputable def Ny:Expr→Bool
 | .Set ..=>false
 | _=>true
noncomputable def noStar:Expr→Bool
 | .Starred ..=>false
 | _=>true
noncomputable def isIn:Cm→Bool
 | .isin | .notin=>true
 | _=>false
noncomputable def Zo4(k:Ck):List Nat→List Expr→Bool
 | [],[]=>true
 | i::is,.Name x _::es=>k.N[i]?==some x&&k.locC x&&Zo4 k is es
 | _,_=>false
noncomputable def O3(k:Ck)(is:List Nat):Expr→Bool
 | .Name x _=>match is with
  | [i]=>k.N[i]?==some x&&k.locC x
  | _=>false
 | .Tuple es _ _=>k.calm&&decide (2≤is.length)&&Zo4 k is es
 | _=>false
noncomputable def isM1:Expr→Bool
 | .UnaryOp .USub (.Constant (.int j) _ _) _=>j==1
 | _=>false
noncomputable def itTg:It→Expr→Bool
 | .enm _,.Tuple ..=>true
 | .enm _,_=>false
 | .zip _,.Tuple ..=>true
 | .zip _,_=>false
 | _,_=>true
mutual
noncomputable def chkE(k:Ck):E→Expr→Bool
 | .var i,.Name x _=>k.N[i]?==some x&&k.vis x
 | .int i,.Constant (.int j) _ _=>i==j
 | .bl b,.Constant (.bool c) _ _=>b==c
 | .non,.Constant .none _ _=>true
 | .str x,.Constant (.str y) _ _=>x==y
 | .ty t,.Name x _=>x==Str.ofString (Yt t)&&k.glob x&&k.BN.contains x
 | .glb g,.Name x _=>k.GN[g]?==some x&&k.glob x
 | .bin op a b,.BinOp l o r _=>o==opOf op&&chkE k a l&&chkE k b r
 | .neg a,.UnaryOp .USub l _=>chkE k a l
 | .not a,.UnaryOp .Not l _=>chkE k a l
 | .cmp2 op op2 a b d,.Compare l [o,o2] [r,r2] _=>o==cmOf op&&o2==cmOf op2&&(!isIn op2 || Ny r2)&&chkE k a l&&chkE k b r&&chkE k d r2
 | .cmp op a b,.Compare l [o] [r] _=>o==cmOf op&&(!isIn op || Ny r)&&chkE k a l&&chkE k b r
 | .bop true es,.BoolOp .And ls _=>Xm k es ls
 | .bop false es,.BoolOp .Or ls _=>Xm k es ls
 | .ife t a b,.IfExp x l r _=>chkE k t x&&chkE k a l&&chkE k b r&&noIf t
 | .lst es,.List ls _=>Xm k es ls
 | .tup es,.Tuple ls _ _=>Xm k es ls
 | .dict0,.Dict [] [] _=>true
 | .dct a b,.Dict [some l] [r] _=>chkE k a l&&chkE k b r
 | .ix a b,.Subscript l r _=>Gn r&&chkE k a l&&chkE k b r
 | .sl a lo hi,.Subscript l (.Slice x y none _) _=>chkE k a l&&chkO k lo x&&chkO k hi y
 | .rev a,.Subscript l (.Slice none none (some z) _) _=>chkE k a l&&isM1 z
 | .call f es,.Call (.Name x _) ls [] _=>k.calm&&k.FN[f]?==some x&&k.glob x&&Xm k es ls
 | .bf b es,.Call (.Name x _) (l::ls) [] _=>(k.calm || S5 b)&&x==(bfOf b).1&&k.glob x&&k.BN.contains x&&Xm k es (l::ls)
 | .mt m o es,.Call (.Attribute l nm ap) ls [] cp=>nm==mtN m&&Z64 l&&ap.endLine==cp.line&&decide (ls.length<30)&&chkE k o l&&Xm k es ls
 | .comp N' js tg it cd e,.ListComp el [⟨t,iter,ifs,0⟩] scope _=>k.calm&&Td k.sc k.N N' js scope&&Ny iter&&Zk4 k it iter&&decide N'.Nodup&&
   O3 {k with N:=N',sc:=Wn scope k.sc,cells:=false,own:=Gv scope,tries:=false,raises:=[]} tg t&&chkC {k with N:=N',sc:=Wn scope k.sc,cells:=false,own:=Gv scope,tries:=false,raises:=[]} cd ifs&&chkE {k with N:=N',sc:=Wn scope k.sc,cells:=false,own:=Gv scope,tries:=false,raises:=[]} e el&&itTg it t
 | _,_=>false
noncomputable def Xm(k:Ck):Es→List Expr→Bool
 | .nil,[]=>true
 | .cons e r,x::xs=>chkE k e x&&noStar x&&Xm k r xs
 | _,_=>false
noncomputable def chkO(k:Ck):Eo→Option Expr→Bool
 | .no,none=>true
 | .yes e,some x=>chkE k e x
 | _,_=>false
noncomputable def chkC(k:Ck):Eo→List Expr→Bool
 | .no,[]=>true
 | .yes e,[x]=>chkE k e x&&noIf e
 | _,_=>false
noncomputable def Zk4(k:Ck):It→Expr→Bool
 | .seq e,x=>chkE k e x
 | .rng1 a,.Call (.Name x _) [l] [] _=>x==("range":Str)&&k.glob x&&k.BN.contains x&&noStar l&&chkE k a l
 | .rng2 a b,.Call (.Name x _) [l,r] [] _=>x==("range":Str)&&k.glob x&&k.BN.contains x&&noStar l&&noStar r&&chkE k a l&&chkE k b r
 | .enm e,.Call (.Name x _) [l] [] _=>x==("enumerate":Str)&&k.glob x&&k.BN.contains x&&noStar l&&chkE k e l
 | .zip es,.Call (.Name x _) (l::ls) [] _=>x==("zip":Str)&&k.glob x&&k.BN.contains x&&Xm k es (l::ls)
 | _,_=>false
noncomputable def noIf:E→Bool
 | .ife _ _ _=>false
 | .not a=>noIf a
 | .bop _ es=>Co es
 | _=>true
noncomputable def Co:Es→Bool
 | .nil=>true
 | .cons e r=>noIf e&&Co r
end
def Zg0(X:Cx)(x:Str)(sp:DSp):Prop:=
 ∃(kk:Nat) (f:Addr) (fd:FuncData) (ps:List Str) (ds:List Value) (dvs:List V) (dD:List D) (sp0:DSp),FnOk X.prog X.w X.K X.mg X.base (CX1 X.prog X.w) kk f fd ps (spF X.K sp0)∧Room kk X.A∧X.mg x=some (.ref f)∧PySem.W.keepIn X.K (.ref f)=true∧
  Zq X.K fd ps ds∧Vals dvs ds∧(∀w:Vw,w.K=X.K→RDs w dD dvs)∧∀as M Q Z,sp as M Q Z→sp0 (as++dD) M Q Z
def Pp(K:PySem.W.Frag):Sp:=fun vs H Q _=>∃e C y,vs=[V.ref e,y]∧H e=some (XN e (.ref C) none)∧ExcSet K C "row"∧∀dx,H dx=none→Q .non (upd (upd H dx (.xd [("row",y)])) e (XN e (.ref C) (some dx)))
def Zh9(X:Cx)(C:Addr):Prop:=∃(kk:Nat) (f:Addr) (fd:FuncData),ExcMk X.K C f∧FnOk X.prog X.w X.K X.mg X.base CX0 kk f fd ["self","row"] (Pp X.K)∧Room (kk+1) X.A∧Zq X.K fd ["self","row"] [.none]∧Zq X.K fd ["self","row"] []∧ExcSet X.K C "row"
structure Good(c:Cfg)(k:Ck)(Z:DX)(w0:Vw)(X:Cx):Prop where
 hK:X.K=c.K
 wK:w0.K=c.K
 N:X.N=k.N
 nd:X.N.Nodup
 sc:X.env.scope=k.sc
 calm:k.calm=true→X.calm=true
 units:X.A.units+64<cLine
 fns:k.calm=true→∀(f:Nat) (x:Str) (sp:DSp),k.FN[f]?=some x→c.Γ[f]?=some sp→Zg0 X x sp
 flen:k.FN.length=c.Γ.length
 glb:∀(g:Nat) (x:Str) (d:D),k.GN[g]?=some x→c.G[g]?=some d→∃v u,X.mg x=some u∧RelV v u∧∀w:Vw,w.K=X.K→RD w d v
 blt:∀x,x∈k.BN→X.mg x=none
 exc:∃E,Nn (CX1 X.prog X.w) X E∧∀cls dd H',xkOf w0 Z cls dd H'→E cls dd H'
 stk:k.tries=true→X.stack=X.env::X.outer∧X.env.frame=some X.env.locals
 rai:∀g:Nat,k.raises.contains g=true→(∃E,Leaves X E∧∀cls dd H',xkOf w0 Z cls dd H'→E cls dd H')∧∀C:Addr,c.G[g]?=some (.cls C)→Zh9 X C
 po:k.loops=true→PassesOwn (model X.prog X.w) X.A X.env X.xe
 fnc:k.cells=true→∀x,X.fn x=true
 fno:∀x,x∈k.own→X.fn x=true
theorem Nf{w w':Vw}{Z:DX}{cls:Value}{dd:Option Addr}{H':Hp}(x:Ext w w')(h:xkOf w' Z cls dd H'):xkOf w Z cls dd H':=by
 obtain⟨C,dx,r,w2,row,M,e1,e2,e3,e4,h5⟩:=h
 exact⟨C,dx,r,w2,row,M,e1,e2,e3,x.trans e4,h5⟩
def ttD(f:DE):DT:=fun σ M Q=>f σ M fun x M1=>truD M1 x fun b=>Q b M1
section
variable{c:Cfg}{k:Ck}{Z:DX}{w0:Vw}{X:Cx}
theorem Good.gl(G:Good c k Z w0 X){x:Str}(h:k.glob x=true):Gl X x∧(x==("__debug__":Str))=false∧x≠"__name__":=by
 unfold Ck.glob at h
 simp only[Bool.and_eq_true,beq_iff_eq,Bool.not_eq_true',beq_eq_false_iff_ne] at h
 refine⟨?_,by simpa using h.1.2,h.2⟩
 unfold Gl Env.kindOf
 rw[G.sc];exact h.1.1
theorem Good.vis(G:Good c k Z w0 X){x:Str}(h:k.vis x=true):Vis X.env.scope x∧(x==("__debug__":Str))=false∧(x==("__classdict__":Str))=false:=by
 unfold Ck.vis at h
 simp only[Bool.and_eq_true,beq_iff_eq,Bool.not_eq_true',Bool.or_eq_true] at h
 refine⟨?_,h.1.2,h.2⟩
 unfold Vis
 rw[G.sc]
 rcases h.1.1 with(q | q) | q
 ·exact .inl q
 ·exact .inr (.inl q)
 ·exact .inr (.inr q)
theorem Good.locC(G:Good c k Z w0 X){x:Str}(h:k.locC x=true):Loc X.env.scope x∧(X.fn x=true∨X.env.scope.names.lookup x=some .local):=by
 unfold Ck.locC Ck.loc at h
 rw[Bool.or_eq_true,Bool.and_eq_true] at h
 rcases h with h | ⟨h1,h2⟩
 ·have hl:X.env.scope.names.lookup x=some .local:=by rw[G.sc];exact eq_of_beq h
  exact⟨.inl hl,.inr hl⟩
 ·refine⟨.inr (by rw[G.sc];exact eq_of_beq h2),.inl ?_⟩
  rw[Bool.or_eq_true,List.contains_iff_mem] at h1
  rcases h1 with z | z
  ·exact G.fnc z x
  ·exact G.fno x z
theorem Good.eK(G:Good c k Z w0 X):X.K=w0.K:=G.hK.trans G.wK.symm
theorem StOk.K{w w0:Vw}{σD:DEnv}{M:Z1}{σ:L2.St}{H:Hp}(S:StOk w0 w σD M σ H):w.K=w0.K:=S.ext.K
theorem Yg{f:DE}{σ:L2.St}{w:Vw}{σD:DEnv}{M:Z1}{H:Hp}{Q:VK}{QD:DK}(S:StOk w0 w σD M σ H)(h:f σD M QD)(a:Aft w QD Q):tF w0 f σ H Q:=⟨w,σD,M,QD,S,h,a⟩
theorem Jq{l:Expr}{nm:Str}{env:Env}(h:Z64 l=true):attributeBase l nm env (eval l env)=eval l env:=by
 unfold attributeBase
 split
 ·rename_i id np pos
  have:(id !="super" || nm=="__class__" || env.kindOf "super" !=some .globalImplicit || env.kindOf "__class__" !=some .free)=true:=by
   have:(id !=("super":Str))=true:=h
   rw[this];rfl
  simp only[this,if_true]
 ·rfl
theorem Zu{x:Expr}{xs:List Expr}{env:Env}(h:noStar x=true):starEach (x::xs) env=(false,eval x env)::starEach xs env:=by
 cases x<;>first | rfl | cases h
theorem Xi{k:Ck}{env:Env}:∀(es:Es) (xs:List Expr),Xm k es xs=true→(starEach xs env).all (fun p=> !p.1)=true
 | .nil,[],_=>rfl
 | .nil,_::_,h=>by simp[Xm] at h
 | .cons e r,[],h=>by simp[Xm] at h
 | .cons e r,x::xs,h=>by
  simp only[Xm,Bool.and_eq_true] at h
  rw[Zu h.1.2]
  simp only[List.all_cons,Bool.not_false,Bool.true_and]
  exact Xi r xs h.2
theorem T9{pos:Pos}{l:List (Bool×Sem Value)}(h:l.all (fun p=> !p.1)=true):(backTo pos l).any (·.1)=false:=by
 induction l with
 | nil=>rfl
 | cons p r ih=>
  simp only[List.all_cons,Bool.and_eq_true,Bool.not_eq_true'] at h
  show(p.1 || (backTo pos r).any (·.1))=false
  rw[h.1,ih h.2];rfl
theorem Zd5{pos:Pos}{l:List (Bool×Sem Value)}(h:l.all (fun p=> !p.1)=true):(backTo pos l).all (fun x=> !x.1)=true:=by
 induction l with
 | nil=>rfl
 | cons p r ih=>
  simp only[List.all_cons,Bool.and_eq_true] at h
  show((!p.1)&&(backTo pos r).all (fun x=> !x.1))=true
  rw[h.1,ih h.2];rfl
theorem Y92{f:DE}{ex:Expr}(G:Good c k Z w0 X)(h:PE X ex (tF w0 f))(he:∀whole,isTrue ex X.env whole=(do let v ←whole;standAt ex.pos;holding [v] (truthy v))):PT X ex (tFT w0 (ttD f)):=by
 refine PT.imp (Zd4 h he) fun σ H Q zz74=>?_
 obtain⟨w,σD,M,QD,S,g,a⟩:=zz74
 refine Yg S g fun v w' d M' x r rd q=>?_
 obtain⟨b,t1,t2⟩:=Vz (K:=X.K) (by rw[x.K,S.K,G.eK]) r rd q
 exact⟨b,t1,a b w' M' x r t2⟩
theorem Z48{f:DE}{ex:Expr}(h:PT X ex (Zn6 (tF w0 f)))(hb:∀σD M QD,f σD M QD→f σD M fun d M'=>(∃b,d= .bl b)∧QD d M'):PT X ex (tFT w0 (ttD f)):=by
 refine PT.imp h fun σ H Q zz75=>?_
 obtain⟨w,σD,M,QD,S,g,a⟩:=zz75
 refine Yg S (hb _ _ _ g) fun v w' d M' x r rd q=>?_
 obtain⟨⟨b,rfl⟩,q⟩:=q
 cases Xd.mp rd
 exact⟨b,rfl,a b w' M' x r q⟩
theorem Z25{fa fb:DE}{g:D→D→Z1→DK→Prop}{σ:L2.St}{H:Hp}{Q:VK}(h:tF w0 (fun σD M QD=>fa σD M fun x M1=>fb σD M1 fun y M2=>g x y M2 QD) σ H Q):tOp (rF w0 g) (tF w0 fa) (tF w0 fb) σ H Q:=by
 obtain⟨w,σD,M,QD,S,g0,a⟩:=h
 refine Yg S g0 fun x w1 dx M1 x1 r1 rx q1=>?_
 refine Yg (S.next x1 r1) q1 fun y w2 dy M2 x2 r2 ry q2=>?_
 exact⟨w2,M2,dx,dy,QD,rfl,(S.ext.trans x1).trans x2,r2,rx.ext x2,ry,q2,a.ext (x1.trans x2)⟩
theorem Oy{fa fb:DE}{g:Z1→D→D→(Bool→Prop)→Prop}{σ:L2.St}{H:Hp}{Q:VK}(h:tF w0 (fun σD M QD=>fa σD M fun x M1=>fb σD M1 fun y M2=>g M2 x y fun b=>QD (.bl b) M2) σ H Q):tOp (rB w0 g) (tF w0 fa) (tF w0 fb) σ H Q:=by
 obtain⟨w,σD,M,QD,S,g0,a⟩:=h
 refine Yg S g0 fun x w1 dx M1 x1 r1 rx q1=>?_
 refine Yg (S.next x1 r1) q1 fun y w2 dy M2 x2 r2 ry q2=>?_
 exact⟨w2,M2,dx,dy,_,rfl,((S.ext.trans x1).trans x2).K,r2,rx.ext x2,ry,q2,fun b hb=>a _ w2 _ M2 (x1.trans x2) r2 (Xd.mpr rfl) hb⟩
theorem Qk{fa fb fd:DE}{g g':Z1→D→D→(Bool→Prop)→Prop}{σ:L2.St}{H:Hp}{Q:VK}(h:tF w0 (fun σD M QD=>fa σD M fun x M1=>fb σD M1 fun y M2=>g M2 x y fun b=>if b=true then fd σD M2 fun z M3=>g' M3 y z fun b=>QD (.bl b) M3 else QD (.bl false) M2) σ H Q):Z67 (rB w0 g) (rB w0 g') (tF w0 fa) (tF w0 fb) (tF w0 fd) σ H Q:=by
 obtain⟨w,σD,M,QD,S,g0,a⟩:=h
 refine Yg S g0 fun x w1 dx M1 x1 r1 rx q1=>?_
 refine Yg (S.next x1 r1) q1 fun y w2 dy M2 x2 r2 ry q2=>?_
 refine⟨w2,M2,dx,dy,_,rfl,((S.ext.trans x1).trans x2).K,r2,rx.ext x2,ry,q2,fun b hb=>⟨b,rfl,?_⟩⟩
 cases b with
 | false=>exact a _ w2 _ M2 (x1.trans x2) r2 (Xd.mpr rfl) hb
 | true=>
  refine Yg ((S.next x1 r1).next x2 r2) hb fun z w3 dz M3 x3 r3 rz q3=>?_
  exact⟨w3,M3,dy,dz,_,rfl,(((S.ext.trans x1).trans x2).trans x3).K,r3,ry.ext x3,rz,q3,fun b hb=>a _ w3 _ M3 ((x1.trans x2).trans x3) r3 (Xd.mpr rfl) hb⟩
theorem Zo8{a:Expr}{ta:TE}{pos:Pos}(ha:PE X a ta):PE X (.UnaryOp .Not a pos) (fun σ H Q=>ta σ H fun x H1=>∃b,TruV X.K x H1 b∧Q (.bl (!b)) H1):=by
 intro pins s σ H Q I h
 refine UnaryOp_ (thn (ha pins s σ H _ I h) fun v s1 zz76=>?_)
 obtain⟨x,H1,I1,r1,q1⟩:=zz76
 refine not_of (thn (Em pins s1 σ H1 x v (fun b H2=>Q (.bl (!b)) H2) I1 r1 q1) fun b s2 zz77=>by obtain⟨H2,I2,q2⟩:=zz77;exact⟨.bl (!b),H2,I2,rfl,q2⟩)
theorem Zq9(t:Ty):bootBuiltins (Str.ofString (Yt t))=some (.type (Yt t)):=by
 cases t
 ·exact boot_int
 ·exact boot_str
 ·exact boot_bool
 ·exact boot_list
 ·exact boot_tuple
 ·exact boot_dict
 ·show bootBuiltins "ValueError"=some (.type "ValueError")
  decide+kernel
theorem Zw6(b:Bf):bootBuiltins (bfOf b).1=some (bfOf b).2:=by
 cases b<;>first | exact PySem.boot_len | exact boot_isinstance | exact PyProof.Rows.boot_min | exact PyProof.Rows.boot_max | exact boot_list | exact boot_tuple | exact boot_dict | exact boot_str | exact boot_int
end
def JOk(w1:Vw)(J:L2.It)(own:Own)(xs:List D):Prop:=∀w M,Ext w1 w→RS w M→O8 own xs M→∀i:Nat,
 (∀d,xs[i]?=some d→J.go i w.H∧∀x H',J.yld i w.H x H'→∃w',w'.H=H'∧Ext w w'∧RS w' M∧RD w' d x)∧(xs.length≤i→J.stop i w.H)
def iF(w0:Vw)(f:DEnv→Z1→(Own→List D→Z1→Prop)→Prop):TI:=fun σ H R=>∃w σD M QD,StOk w0 w σD M σ H∧f σD M QD∧
 ∀J w' own xs M',Ext w w'→RS w' M'→JOk w' J own xs→QD own xs M'→R J w'.H
section
variable{c:Cfg}{k:Ck}{Z:DX}{w0:Vw}{X:Cx}
theorem PI.imp{tg it:Expr}{t t':TI}(h:PI X tg it t)(q:∀σ H R,t' σ H R→t σ H R):PI X tg it t':=fun pins s σ H R I z=>h pins s σ H R I (q σ H R z)
theorem Y16{tg l:Expr}{tl:TE}(hl:PE X l tl):PI X tg l (fun σ H R=>tl σ H fun x H1=>(∃a,x= .ref a∧(∃xs,SqL X.K H1 a xs)∧R (Itl X.K a) H1)∨∃a,x= .ref a∧(∃xs,SqT X.K H1 a xs)∧R (Itt X.K a) H1):=by
 intro pins s σ H R I h
 refine thn (hl pins s σ H _ I h) fun v s1 zz78=>?_
 obtain⟨x,H1,I1,r1,q1⟩:=zz78
 have fp:∀b∈[s1.heap.objs.size],FpOk X pins H1 b:=fun b hb=>by
  have e:b=s1.heap.objs.size:=by simpa using hb
  subst e
  exact I1.fpOk (Nat.le_refl _) (I1.hok.fresh (Nat.le_refl _))
 rcases q1 with⟨a,e,⟨xs,hq⟩,q⟩ | ⟨a,e,⟨xs,hq⟩,q⟩
 ·subst e
  cases r1
  obtain⟨its,rv,p,hz⟩:=I1.list hq
  refine wpAny_pyIter_list p.isList ?_
  exact⟨s1.heap.objs.size,[s1.heap.objs.size],_,_,H1,rfl,I1.kept (t':=s1.toks) fun b o e=>Heap.get?_push_of_some _ e,Z35 a _,⟨_,Heap.get?_push_size _ rfl,rfl,rfl⟩,fp,q⟩
 ·subst e
  cases r1
  obtain⟨its,rv,p,hz⟩:=I1.tuple hq
  refine wpAny_pyIter_tuple (show s1.heap.IsTuple a its.toArray from p) ?_
  exact⟨s1.heap.objs.size,[s1.heap.objs.size],_,_,H1,rfl,I1.kept (t':=s1.toks) fun b o e=>Heap.get?_push_of_some _ e,C5 a _,⟨_,Heap.get?_push_size _ rfl,rfl,rfl⟩,fp,q⟩
theorem Zs3{tg l:Expr}{tl:TE}(hl:PE X l tl):PI X tg l (fun σ H R=>tl σ H fun x H1=>∃a kvs,x= .ref a∧H1 a=some (.dK kvs)∧∀o,(∀o' u,X.H₀ a≠some (.frz o' u))→R (Itd a o) (upd H1 a (.frz o (.dK kvs)))):=by
 intro pins s σ H R I h
 refine thn (hl pins s σ H _ I h) fun v s1 zz79=>?_
 obtain⟨x,H1,I1,r1,a,kvs,e,hq,q⟩:=zz79
 subst e
 cases r1
 obtain⟨o,es,ep,hd,ho,I2,nf⟩:=Zj9 I1 hq
 obtain⟨vs,rel,dd,hlen⟩:=Za5 (I2.hok a _ Zv) hd
 obtain⟨_,hs,_⟩:=Bd I1.hok hq
 refine wpAny_pyIter_dict hs dd ?_
 have fresh:upd H1 a (.frz o (.dK kvs)) s1.heap.objs.size=none:=I2.hok.fresh (Nat.le_refl _)
 have fp:∀b∈[s1.heap.objs.size],FpOk X pins (upd H1 a (.frz o (.dK kvs))) b:=fun b hb=>by
  have e:b=s1.heap.objs.size:=by simpa using hb
  subst e
  exact I2.fpOk (Nat.le_refl _) fresh
 rw[hlen]
 exact⟨s1.heap.objs.size,[s1.heap.objs.size],_,_,_,rfl,I2.kept (t':=s1.toks) fun b o e=>Heap.get?_push_of_some _ e,Z69 a _ hd,⟨_,Heap.get?_push_size _ rfl,rfl,rfl⟩,fp,q o nf⟩
theorem Zl1{w:Vw}:∀{ds:List (Key×D)} {vs:List (Key×V)} {i:Nat} {d:D},RKV w ds vs→(Og ds)[i]?=some d→∃p,vs[i]?=some p∧RD w d (kV p.1)
 | [],vs,i,d,h,e=>by simp[Og] at e
 |(k,x)::ds,vs,i,d,h,e=>by
  unfold RKV at h
  obtain⟨v,r,rfl,h1,h2⟩:=h
  cases i with
  | zero=>
   cases e
   refine⟨(k,v),rfl,?_⟩
   cases k with
   | inl i=>exact Zc.mpr rfl
   | inr x=>exact Y7.mpr rfl
  | succ i=>exact Zl1 (i:=i) h2 e
theorem Zh2{w1:Vw}{n:Nat}{xs:List D}{o:Obj}{vs:List (Key×V)}(hn:n<w1.n)(h:w1.H (w1.μ n)=some (.frz o (.dK vs))):JOk w1 (Itd (w1.μ n) o) (.dct n) xs:=by
 intro w M x R st i
 obtain⟨kvs,st,rfl⟩:=st
 have q:=x.imm _ _ h rfl
 obtain⟨o',us,q1,q2⟩:=R.cell n _ st
 rw[x.μ n hn,q] at q1
 cases q1
 refine⟨fun d e=>?_,fun hl=>⟨vs,q,by rw[q2.length];unfold Og at hl;rw[List.length_map] at hl;exact hl⟩⟩
 obtain⟨p,z1,z2⟩:=Zl1 q2 e
 refine⟨⟨vs,p,q,z1⟩,fun y H' ⟨e1,e2⟩=>⟨w,e1.symm,Ext.refl w,R,?_⟩⟩
 obtain⟨p',z3,z4⟩:=e2 vs q
 rw[z1] at z3
 cases z3
 rw[z4]
 exact z2
theorem Zd0{w1:Vw}{n:Nat}{xs:List D}(hK:X.K=w1.K)(hn:n<w1.n):JOk w1 (Itl X.K (w1.μ n)) (.lst n) xs:=by
 intro w M x R st i
 obtain⟨_,vs,q1,q2,_⟩:=R.listL st
 rw[x.μ n hn,x.K,←hK] at q1
 refine⟨fun d e=>?_,fun hl=>⟨vs,q1,by rw[q2.length];exact hl⟩⟩
 obtain⟨v,z1,z2⟩:=q2.get e
 refine⟨⟨vs,v,q1,z1⟩,fun y H' ⟨e1,e2⟩=>⟨w,e1.symm,Ext.refl w,R,?_⟩⟩
 have:=e2 vs q1
 rw[z1] at this
 cases this
 exact z2
theorem Zf5{w1:Vw}{n:Nat}{xs:List D}(hK:X.K=w1.K)(hn:n<w1.n):JOk w1 (Ite X.K (w1.μ n)) (.enm n) xs:=by
 intro w M x R st i
 obtain⟨ys,st,rfl⟩:=st
 obtain⟨_,vs,q1,q2,_⟩:=R.listL st
 rw[x.μ n hn,x.K,←hK] at q1
 refine⟨fun d e=>?_,fun hl=>⟨vs,q1,by rw[q2.length];unfold N7 at hl;rw[List.length_mapIdx] at hl;exact hl⟩⟩
 unfold N7 at e
 rw[List.getElem?_mapIdx,Option.map_eq_some_iff] at e
 obtain⟨d,e,rfl⟩:=e
 obtain⟨v,z1,z2⟩:=q2.get e
 refine⟨⟨vs,v,q1,z1⟩,fun y H' zz82=>?_⟩
 obtain⟨p,u,hp,e1,e2,e3⟩:=zz82
 have:=e3 vs q1
 rw[z1] at this
 cases this
 subst e1 e2
 obtain⟨a1,a2,a3⟩:=Rg R hp (RDs.cons (Zc.mpr (rfl:V.int (i:Int)=_)) (RDs.cons z2 (RDs.nil w)))
 exact⟨_,rfl,a1,a2,a3⟩
theorem Zq6{w:Vw}{ys zs:List D}{us vs:List V}(h1:RDs w ys us)(h2:RDs w zs vs){i:Nat}{d:D}(e:(zipT ys zs)[i]?=some d):∃x y u v,d= .tup [x,y]∧us[i]?=some u∧vs[i]?=some v∧RD w x u∧RD w y v:=by
 unfold zipT at e
 rw[List.getElem?_map,Option.map_eq_some_iff] at e
 obtain⟨p,e,rfl⟩:=e
 rw[List.getElem?_zip_eq_some] at e
 obtain⟨u,a1,a2⟩:=h1.get e.1
 obtain⟨v,b1,b2⟩:=h2.get e.2
 exact⟨_,_,u,v,rfl,a1,b1,a2,b2⟩
theorem Zt1{w1:Vw}{n m:Nat}{xs:List D}(hK:X.K=w1.K)(hn:n<w1.n)(hm:m<w1.n):JOk w1 (Itz X.K (w1.μ n) (w1.μ m)) (.two n m) xs:=by
 intro w M x R st i
 obtain⟨ys,zs,st,st2,rfl⟩:=st
 obtain⟨_,us,q1,q2,_⟩:=R.listL st
 obtain⟨_,vs,p1,p2,_⟩:=R.listL st2
 rw[x.μ n hn,x.K,←hK] at q1
 rw[x.μ m hm,x.K,←hK] at p1
 refine⟨fun d e=>?_,fun hl=>⟨us,vs,q1,p1,?_⟩⟩
 ·obtain⟨dx,dy,u,v,rfl,a1,a2,a3,a4⟩:=Zq6 q2 p2 e
  refine⟨⟨us,vs,u,v,q1,p1,a1,a2⟩,fun y H' zz83=>?_⟩
  obtain⟨p,u',v',hp,e1,e2,e3,e4⟩:=zz83
  have h3:=e3 us q1
  have h4:=e4 vs p1
  rw[a1] at h3
  rw[a2] at h4
  cases h3
  cases h4
  subst e1 e2
  obtain⟨b1,b2,b3⟩:=Rg R hp (RDs.cons a3 (RDs.cons a4 (RDs.nil w)))
  exact⟨_,rfl,b1,b2,b3⟩
 ·have l1:=q2.length
  have l2:=p2.length
  unfold zipT at hl
  rw[List.length_map,List.length_zip] at hl
  omega
theorem Z20{w1:Vw}{a:Addr}{vs:List V}{xs:List D}(hK:X.K=w1.K)(h:SqT w1.K w1.H a vs)(r:RDs w1 xs vs):JOk w1 (Itt X.K a) .no xs:=by
 intro w M x R st i
 have q1:=x.sqT h
 rw[x.K,←hK] at q1
 have q2:=r.ext x
 refine⟨fun d e=>?_,fun hl=>⟨vs,q1,by rw[q2.length];exact hl⟩⟩
 obtain⟨v,z1,z2⟩:=q2.get e
 refine⟨⟨vs,v,q1,z1⟩,fun y H' ⟨e1,e2⟩=>⟨w,e1.symm,Ext.refl w,R,?_⟩⟩
 have:=e2 vs q1
 rw[z1] at this
 cases this
 exact z2
theorem Z37{w1:Vw}{lo:Int}{n:Nat}:JOk w1 (Itr lo n) .no (Qm lo n):=by
 intro w M x R st i
 unfold Qm
 refine⟨fun d e=>?_,fun hl=>?_⟩
 ·rw[List.getElem?_map,Option.map_eq_some_iff] at e
  obtain⟨j,h1,rfl⟩:=e
  obtain⟨h2,h3⟩:=List.getElem?_eq_some_iff.mp h1
  have hj:j=i:=by simpa using h3.symm
  subst hj
  have h4:j<n:=by simpa using h2
  exact⟨h4,fun y H' zz85=>by obtain⟨e1,e2⟩:=zz85;exact⟨w,e1.symm,Ext.refl w,R,by rw[e2];exact Zc.mpr rfl⟩⟩
 ·have:n≤i:=by simpa using hl
  exact this
theorem Z36{X:Cx}{N':List Str}{scope:Scope}{cl:List (Str×Addr)}{C:Addr}{fp:List Addr}{pins:List (Addr×Obj)}{s:Shared}{H:Hp}:(cxC X N' scope cl C fp pins s H).env.scope=Wn scope X.env.scope:=rfl
theorem Good.block(G:Good c k Z w0 X)(hc:k.calm=true){N':List Str}{scope:Scope}(hn:N'.Nodup)(cl:List (Str×Addr))(C:Addr)(fp:List Addr)(pins:List (Addr×Obj))(s:Shared)(H:Hp):
  Good c {k with N:=N',sc:=Wn scope k.sc,cells:=false,own:=Gv scope,tries:=false,raises:=[]} noX w0 (cxC X N' scope cl C fp pins s H) where
 hK:=G.hK
 wK:=G.wK
 N:=rfl
 nd:=hn
 sc:=by rw[Z36,G.sc]
 calm:=fun _=>G.calm hc
 units:=G.units
 fns:=fun _ f x sp h1 h2=>by
  obtain⟨kk,f,fd,ps,ds,dvs,dD,sp0,h⟩:=G.fns hc f x sp h1 h2
  exact⟨kk,f,fd,ps,ds,dvs,dD,sp0,h⟩
 flen:=G.flen
 glb:=G.glb
 blt:=G.blt
 exc:=⟨E0,fun _ _ _ _ _ _ _ h=>by
  obtain⟨_,_,_,_,_,_,_,_,_,_,_,_,_,_,_,h⟩:=h
  exact h.elim,fun cls dd H' h=>by
  obtain⟨_,_,_,_,_,_,_,_,_,_,_,_,_,h⟩:=h
  exact h.elim⟩
 stk:=fun h=>by cases h
 rai:=fun _ h=>absurd h Bool.false_ne_true
 po:=fun _=>PassesOwn.never
 fnc:=fun h=>by cases h
 fno:=fun x hx=>by
  show(scope.names.any fun y=>y.1==x&&y.2==NameKind.cell)=true
  have hx:x∈(scope.names.filter fun y=>y.2==NameKind.cell).map (·.1):=hx
  obtain⟨y,hy,rfl⟩:=List.mem_map.mp hx
  obtain⟨h1,h2⟩:=List.mem_filter.mp hy
  rw[List.any_eq_true]
  exact⟨y,h1,by rw[beq_self_eq_true,Bool.true_and];exact h2⟩
theorem Good.tgt(G:Good c k Z w0 X):∀(is:List Nat) (ex:Expr),O3 k is ex=true→PG X ex (gF w0 is):=by
 have one:∀(i:Nat) (x:Str) (pos:Pos),k.N[i]?=some x→k.locC x=true→PG X (.Name x pos) (Zb6 i):=fun i x pos h1 h2=>by
  obtain⟨l1,l2⟩:=G.locC h2
  exact Zw5 G.nd (by rw[G.N];exact h1) l1 l2
 have many:∀(is:List Nat) (es:List Expr),Zo4 k is es=true→PGs X es (gAll is)∧(assignEach es X.env).length=is.length∧(assignEach es X.env).findIdx? (·.1)=none:=by
  intro is
  induction is with
  | nil=>
   intro es h
   cases es with
   | nil=>exact⟨Zt9,rfl,rfl⟩
   | cons e es=>exact absurd h Bool.false_ne_true
  | cons i is ih=>
   intro es h
   cases es with
   | nil=>exact absurd h Bool.false_ne_true
   | cons e es=>
    cases e with
    | Name x pos=>
     change (_&&_)=true at h
     simp only[Bool.and_eq_true,beq_iff_eq] at h
     obtain⟨h1,h2,h3⟩:=ih es h.2
     refine⟨Zd6 (one i x pos h.1.1 h.1.2) h1 rfl,?_,?_⟩
     ·show(assignEach es X.env).length+1=is.length+1
      rw[h2]
     ·show((false,_)::assignEach es X.env).findIdx? (·.1)=none
      rw[List.findIdx?_cons,h3]
      rfl
    | _=>exact absurd h Bool.false_ne_true
 intro is ex h
 cases ex with
 | Name x pos=>
  match is,h with
  | [i],h=>
   change (_&&_)=true at h
   simp only[Bool.and_eq_true,beq_iff_eq] at h
   exact Y17 (one _ x pos h.1 h.2)
  | [],h=>exact absurd h Bool.false_ne_true
  | _::_::_,h=>exact absurd h Bool.false_ne_true
 | Tuple es kk pos=>
  change (_&&_)=true at h
  simp only[Bool.and_eq_true,decide_eq_true_eq] at h
  obtain⟨h1,h2,h3⟩:=many is es h.2
  exact Zp0 h.1.2 (Zz6 (G.calm h.1.1) h1 h2 h3)
 | _=>exact absurd h Bool.false_ne_true
theorem Zo9{w:Vw}{js:List (Option Nat)}{σD:DEnv}{σ:L2.St}(h:REnv w σD σ):REnv w (capD js σD) (Tv js σ):=by
 refine⟨by unfold capD Tv;simp,fun i d e=>?_⟩
 unfold capD at e
 unfold Tv
 rw[List.getElem?_map] at e ⊢
 cases hj:js[i]? with
 | none=>rw[hj] at e;cases e
 | some o=>
  rw[hj] at e
  simp only[Option.map_some,Option.some.injEq] at e ⊢
  cases o with
  | none=>cases e
  | some j=>
   simp only[Option.bind_some] at e ⊢
   cases hz:σD[j]? with
   | none=>rw[hz] at e;cases e
   | some z=>
    rw[hz] at e
    have e':z=some d:=e
    subst e'
    obtain⟨v,q1,q2⟩:=h.2 j d hz
    exact⟨v,by rw[q1];rfl,q2⟩
theorem Zf4{w1:Vw}{J:L2.It}{own:Own}{xs:List D}{tg:List Nat}{cd:DT}{el:DE}{M1:Z1}{H1:Hp}{σD:DEnv}{σ:L2.St}{QD:Z1→Prop}{Q:VK}(e0:Ext w0 w1)(hH:w1.H=H1)(R1:RS w1 M1)(env:REnv w1 σD σ)(jk:JOk w1 J own xs)
  (h:Jz own xs tg cd el M1.length xs σD (M1++[.lst []]) QD) (a:Aft w1 (fun d M=>d= .ref M1.length∧QD M) Q):∀p,H1 p=none→∃W:Nat→Nat→L2.St→Hp→Prop,(∃m,W 0 m σ (upd H1 p (.lst [])))∧
   ∀i m σc Hc,W i m σc Hc→(J.stop i Hc∧Q (.ref p) Hc)∨(J.go i Hc∧∀x H',J.yld i Hc x H'→gF w0 tg x σc H' fun σ2 H2=>tFT w0 cd σ2 H2 fun b H3=>if b=true then tF w0 el σ2 H3 fun y H4=>∃acc,H4 p=some (.lst acc)∧acc.length<sizeLine∧
    ∃m',m'<m∧W (i+1) m' σ2 (upd H4 p (.lst (acc++[y]))) else ∃m',m'<m∧W (i+1) m' σ2 H3):=by
 intro p hp
 subst hH
 obtain⟨x1,R2,rz⟩:=Wg (xs:=[]) R1 hp (RDs.nil w1)
 have hz:M1.length< (w1.push p (.lst [])).n∧p=(w1.push p (.lst [])).μ M1.length:=by
  obtain⟨z1,z2⟩:=Zy.mp rz
  exact⟨z1,by injection z2⟩
 refine⟨fun i m σc Hc=>∃w σE M,StOk w0 w σE M σc Hc∧Ext (w1.push p (.lst [])) w∧i≤xs.length∧m=xs.length - i∧Jz own xs tg cd el M1.length (xs.drop i) σE M QD,⟨xs.length,w1.push p (.lst []),σD,_,⟨rfl,e0.trans x1,R2,env.ext x1⟩,Ext.refl _,Nat.zero_le _,rfl,h⟩,?_⟩
 rintro i m σc Hc ⟨w,σE,M,S,x2,hi,rfl,hc⟩
 have x12:Ext w1 w:=x1.trans x2
 have hp':w.μ M1.length=p:=(x2.μ _ hz.1).trans hz.2.symm
 have hlt:M1.length<w.n:=Nat.lt_of_lt_of_le hz.1 x2.n
 have stp:∀st:O8 own xs M,_:=fun st=>jk w M x12 S.rs st i
 rw[S.heap] at stp
 by_cases hil:i<xs.length
 ·rw[List.drop_eq_getElem_cons hil] at hc
  obtain⟨st,hc⟩:=hc
  obtain⟨j1,j2⟩:=(stp st).1 xs[i] (List.getElem?_eq_getElem hil)
  refine .inr ⟨j1,fun x H' hy=>?_⟩
  obtain⟨w3,rfl,x3,R3,rd3⟩:=j2 x H' hy
  refine⟨w3,σE,M,xs[i],_,⟨rfl,S.ext.trans x3,R3,S.env.ext x3⟩,rd3,hc,fun σ2 σE2 env2 q2=>?_⟩
  refine⟨w3,σE2,M,_,⟨rfl,S.ext.trans x3,R3,env2⟩,q2,fun b w4 M4 x4 R4 q4=>?_⟩
  cases b with
  | true=>
   rw[if_pos rfl] at q4 ⊢
   refine Yg ⟨rfl,(S.ext.trans x3).trans x4,R4,env2.ext x4⟩ q4 fun y w5 dy M5 x5 R5 rd5 q5=>?_
   obtain⟨acc,g1,g2,g3⟩:=q5
   obtain⟨hn,vs,z1,z2⟩:=R5.list g1
   have x35:Ext w w5:=(x3.trans x4).trans x5
   have hp5:w5.μ M1.length=p:=(x35.μ _ hlt).trans hp'
   obtain⟨y1,y2⟩:=Vk R5 hn z1 (z2.append (RDs.cons rd5 (RDs.nil w5)))
   rw[hp5] at z1 y1 y2
   refine⟨vs,z1,by rw[z2.length];exact g2,xs.length - (i+1),by omega,w5.alloc p (.lst (vs++[y])),σE2,_,⟨rfl,(S.ext.trans x35).trans y1,y2,(env2.ext (x4.trans x5)).ext y1⟩,(x2.trans x35).trans y1,hil,rfl,g3⟩
  | false=>
   rw[if_neg Bool.false_ne_true] at q4 ⊢
   exact⟨xs.length - (i+1),by omega,w4,σE2,M4,⟨rfl,(S.ext.trans x3).trans x4,R4,env2.ext x4⟩,(x2.trans x3).trans x4,hil,rfl,q4⟩
 ·rw[List.drop_eq_nil_of_le (by omega)] at hc
  obtain⟨st,hq⟩:=hc
  refine .inl ⟨(stp st).2 (by omega),?_⟩
  have:=a (.ref p) w (.ref M1.length) M x12 S.rs (Zy.mpr ⟨hlt,by rw[hp']⟩) ⟨rfl,hq⟩
  rw[S.heap] at this
  exact this
end
def Zn3(c:Cfg)(e:E):Prop:=∀(k:Ck) (Z:DX) (w0:Vw) (X:Cx) (ex:Expr),Good c k Z w0 X→chkE k e ex=true→PE X ex (tF w0 (te c Z e))∧(noIf e=true→PT X ex (tFT w0 (ttD (te c Z e))))
def Zs0(c:Cfg)(es:Es):Prop:=∀(k:Ck) (Z:DX) (w0:Vw) (X:Cx) (ls:List Expr),Good c k Z w0 X→Xm k es ls=true→PA X ls (tFA w0 (tes c Z es))∧
 ∀(b:Bool) (pos:Pos),PE X (.BoolOp (if b then .And else .Or) ls pos) (tF w0 (tbop c Z b es))∧(Co es=true→PW X (.BoolOp (if b then .And else .Or) ls pos) (tFT w0 (ttD (tbop c Z b es))))
def Zm4(c:Cfg)(eo:Eo):Prop:=(∀(k:Ck) (Z:DX) (w0:Vw) (X:Cx) (lo:Option Expr),Good c k Z w0 X→chkO k eo lo=true→PO X lo (tFO w0 (teo c Z eo)))∧
 ∀(k:Ck) (Z:DX) (w0:Vw) (X:Cx) (ls:List Expr),Good c k Z w0 X→chkC k eo ls=true→(∃x,ls=[x]∧PT X x (tFT w0 (tcd c Z eo)))∨(ls=[]∧eo= .no)
def Y49(c:Cfg)(it:It):Prop:=∀(k:Ck) (Z:DX) (w0:Vw) (X:Cx) (tg ex:Expr),Good c k Z w0 X→Zk4 k it ex=true→itTg it tg=true→PI X tg ex (iF w0 (tit c Z it))
section
variable{c:Cfg}{k:Ck}{Z:DX}{w0:Vw}{X:Cx}
theorem Qw{d:D}{v:V}{σ:L2.St}{H:Hp}{Q:VK}(hv:∀w:Vw,w.K=w0.K→RD w d v)(h:tF w0 (fun _ M Q=>Q d M) σ H Q):tC v σ H Q:=by
 obtain⟨w,σD,M,QD,S,g,a⟩:=h
 have:=a v w d M (Ext.refl w) S.rs (hv w S.K) g
 rw[S.heap] at this
 exact this
theorem both{f:DE}{ex:Expr}{b:Bool}(G:Good c k Z w0 X)(h:PE X ex (tF w0 f))(he:∀whole,isTrue ex X.env whole=(do let v ←whole;standAt ex.pos;holding [v] (truthy v))):
  PE X ex (tF w0 f)∧(b=true→PT X ex (tFT w0 (ttD f))):=⟨h,fun _=>Y92 G h he⟩
theorem Bm{f:Nat}{es:Es}{x:Str}{np pos:Pos}{ls:List Expr}(G:Good c k Z w0 X)(hc:k.calm=true)(hf:k.FN[f]?=some x)(hg:k.glob x=true)(hs:Xm k es ls=true)(ih:PA X ls (tFA w0 (tes c Z es))):
  PE X (.Call (.Name x np) ls [] pos) (tF w0 (te c Z (.call f es))):=by
 obtain⟨g1,g2,g3⟩:=G.gl hg
 obtain⟨E,ps,xk⟩:=G.exc
 cases hsp:c.Γ[f]? with
 | none=>
  have h1:=(List.getElem?_eq_some_iff.mp hf).1
  have h2:=List.getElem?_eq_none_iff.mp hsp
  rw[G.flen] at h1
  omega
 | some sp=>
  obtain⟨kk,fa,fd,pr,ds,dvs,dD,sp0,F,hr,hm,hk,hb,hd,hD,hsp0⟩:=G.fns hc f x sp hf hsp
  have key:∀σ H Q,tF w0 (te c Z (.call f es)) σ H Q→tFA w0 (tes c Z es) σ H fun vs H1=>spF X.K sp0 (vs++dvs) H1 Q E:=by
   rintro σ H Q ⟨w,σD,M,QD,S,g,a⟩
   refine⟨w,σD,M,_,S,g,fun vs w' ds' M' x' r' rd' q'=>?_⟩
   have q':sp ds' M' QD Z:=by
    have:=q'
    simp only[hsp] at this
    exact this
   have hKw:w'.K=X.K:=by rw[x'.K,S.K,G.eK]
   exact⟨w',ds'++dD,M',QD,Z,hKw,rfl,r',rd'.append (hD w' hKw),hsp0 _ _ _ _ q',a.ext x',fun cls dd H' hx=>xk cls dd H' (Nf (S.ext.trans x') hx)⟩
  cases ls with
  | nil=>
   refine PE.imp (Zi2 F hr g1 hm hk hb hd ps g2) fun σ H Q h=>?_
   have h2:=key σ H Q h
   obtain⟨w,σD,M,QD,S,g,a⟩:=h2
   cases es with
   | nil=>
    have:=a [] w [] M (Ext.refl w) S.rs (RDs.nil w) g
    rw[S.heap] at this
    exact this
   | cons e r=>exact absurd hs Bool.false_ne_true
  | cons l ls=>
   cases es with
   | nil=>exact absurd hs Bool.false_ne_true
   | cons e r=>
    change (_&&_)=true at hs
    simp only[Bool.and_eq_true] at hs
    exact PE.imp (Zp6 F hr g1 hm hk hb hd ps ih g2 (Zu hs.1.2) (T9 (Xi r ls hs.2))) key
theorem Z27{i:Nat}{x:Str}{pos:Pos}(G:Good c k Z w0 X)(h1:k.N[i]?=some x)(h2:k.vis x=true):PE X (.Name x pos) (tF w0 (te c Z (.var i))):=by
 obtain⟨v1,v2,v3⟩:=G.vis h2
 refine PE.imp (Z98 (i:=i) (by rw[G.N];exact h1) v1 v2 v3) fun σ H Q zz86=>?_
 obtain⟨w,σD,M,QD,S,g,a⟩:=zz86
 unfold te at g
 split at g
 ·rename_i d e
  obtain⟨v,q1,q2⟩:=S.env.2 i d e
  have:=a v w d M (Ext.refl w) S.rs q2 g
  rw[S.heap] at this
  exact⟨v,q1,this⟩
 ·exact g.elim
theorem Z85{g:Nat}{x:Str}{pos:Pos}(G:Good c k Z w0 X)(h1:k.GN[g]?=some x)(h2:k.glob x=true):PE X (.Name x pos) (tF w0 (te c Z (.glb g))):=by
 obtain⟨g1,g2,g3⟩:=G.gl h2
 cases hd:c.G[g]? with
 | none=>
  refine PE.imp (t:=fun _ _ _=>False) (fun _ _ _ _ _ _ h=>h.elim) fun σ H Q zz87=>?_
  obtain⟨w,σD,M,QD,S,q,a⟩:=zz87
  unfold te at q
  rw[hd] at q
  exact q
 | some d=>
  obtain⟨v,u,q1,q2,q3⟩:=G.glb g x d h1 hd
  refine PE.imp (Zv9 g1 q1 q2 g2) fun σ H Q h=>Qw (d:=d) (fun w hw=>q3 w (by rw[hw,G.eK])) ?_
  obtain⟨w,σD,M,QD,S,q,a⟩:=h
  unfold te at q
  rw[hd] at q
  exact⟨w,σD,M,QD,S,q,a⟩
theorem Y58{es:Es}{l:Expr}{ls:List Expr}{pos:Pos}(hs:Xm k es (l::ls)=true):starEach (l::ls) X.env=(false,eval l X.env)::starEach ls X.env∧(backTo pos (starEach ls X.env)).any (·.1)=false:=by
 cases es with
 | nil=>exact absurd hs Bool.false_ne_true
 | cons e r=>
  change (_&&_)=true at hs
  simp only[Bool.and_eq_true] at hs
  exact⟨Zu hs.1.2,T9 (Xi r ls hs.2)⟩
theorem Zf2{b:Bf}{es:Es}{x:Str}{np pos:Pos}{l:Expr}{ls:List Expr}(G:Good c k Z w0 X)(hc:k.calm=true∨S5 b=true)(hx:x=(bfOf b).1)(hg:k.glob x=true)(hB:x∈k.BN)(hs:Xm k es (l::ls)=true)(ih:PA X (l::ls) (tFA w0 (tes c Z es))):
  PE X (.Call (.Name x np) (l::ls) [] pos) (tF w0 (te c Z (.bf b es))):=by
 obtain⟨g1,g2,g3⟩:=G.gl hg
 have hm:=G.blt x hB
 have hb:bootBuiltins x=some (bfOf b).2:=by rw[hx];exact Zw6 b
 have snd:=Zi6 (w0:=w0) G.eK b (hc.imp G.calm id)
 have st:starEach (l::ls) X.env=(false,eval l X.env)::starEach ls X.env∧(backTo pos (starEach ls X.env)).any (·.1)=false:=by
  cases es with
  | nil=>exact absurd hs Bool.false_ne_true
  | cons e r=>
   change (_&&_)=true at hs
   simp only[Bool.and_eq_true] at hs
   exact⟨Zu hs.1.2,T9 (Xi r ls hs.2)⟩
 have key:∀σ H Q,tF w0 (te c Z (.bf b es)) σ H Q→tCB (rC w0 (bfD w0.K b)) (tFA w0 (tes c Z es)) σ H Q:=by
  rintro σ H Q ⟨w,σD,M,QD,S,g,a⟩
  refine⟨w,σD,M,_,S,g,fun vs w' ds M' x' r' rd' q'=>?_⟩
  rw[←G.wK] at q'
  exact⟨w',M',ds,QD,rfl,by rw[x'.K,S.K],r',rd',q',a.ext x'⟩
 cases hv:(bfOf b).2 with
 | builtin id=>
  rw[hv] at hb snd
  exact PE.imp (Zj4 snd g1 hm hb ih g3 g2 st.1 st.2) key
 | type T=>
  rw[hv] at hb snd
  exact PE.imp (Z62 snd g1 hm hb ih g3 g2 st.1 st.2) key
 | _=>cases b<;>cases hv
theorem Zc5{m:Mt}{o:E}{es:Es}{l:Expr}{ap cp:Pos}{ls:List Expr}(G:Good c k Z w0 X)(hb:Z64 l=true)(hl:(ap.endLine==cp.line)=true)(hn:ls.length<30)(hs:Xm k es ls=true)(ho:PE X l (tF w0 (te c Z o)))(ih:PA X ls (tFA w0 (tes c Z es))):
  PE X (.Call (.Attribute l (mtN m) ap) ls [] cp) (tF w0 (te c Z (.mt m o es))):=by
 have snd:=Zb4 (w0:=w0) G.eK G.units m
 cases ls with
 | nil=>
  refine PE.imp (Zy8 (Y07 m) (Z06 m) (Y36 m) snd ho (Jq hb) hl) fun σ H Q zz88=>?_
  obtain⟨w,σD,M,QD,S,g,a⟩:=zz88
  refine Yg S g fun x w1 dx M1 x1 r1 rx q1=>?_
  have ty:=Zm6 r1 rx q1.1
  rw[x1.K,S.K,←G.eK] at ty
  refine⟨ty,?_⟩
  cases es with
  | nil=>exact⟨w1,M1,dx,[],QD,rfl,by rw[x1.K,S.K],r1,rx,RDs.nil w1,q1.2,a.ext x1⟩
  | cons e r=>exact absurd hs Bool.false_ne_true
 | cons l' ls=>
  cases es with
  | nil=>exact absurd hs Bool.false_ne_true
  | cons e r=>
   have hs':=hs
   change (_&&_)=true at hs'
   simp only[Bool.and_eq_true] at hs'
   have few:((backTo cp (starEach (l'::ls) X.env)).all (fun x=> !x.1)&&(backToKw cp (keywordEach [] X.env)).all (fun x=>x.1.isSome)
     &&decide ((l'::ls).length+([]:List Keyword).length+(if ([]:List Keyword).isEmpty then 0 else 1)<30))=true:=by
    rw[Zd5 (Xi _ _ hs)]
    show(true&&true&&decide ((l'::ls).length+0+0<30))=true
    simpa using hn
   refine PE.imp (Y95 (Y07 m) (Z06 m) (Y36 m) snd ho ih (Jq hb) few hl (Zu hs'.1.2) (T9 (Xi r ls hs'.2))) fun σ H Q zz89=>?_
   obtain⟨w,σD,M,QD,S,g,a⟩:=zz89
   refine Yg S g fun x w1 dx M1 x1 r1 rx q1=>?_
   have ty:=Zm6 r1 rx q1.1
   rw[x1.K,S.K,←G.eK] at ty
   refine⟨ty,w1,σD,M1,_,S.next x1 r1,q1.2,fun vs w2 ds M2 x2 r2 rd2 q2=>?_⟩
   exact⟨w2,M2,dx,ds,QD,rfl,by rw[x2.K,x1.K,S.K],r2,rx.ext x2,rd2,q2,a.ext (x1.trans x2)⟩
theorem Zf1{a:E}{lo hi:Eo}{l:Expr}{x y:Option Expr}{p2 pos:Pos}(G:Good c k Z w0 X)(ha:PE X l (tF w0 (te c Z a)))(h1:PO X x (tFO w0 (teo c Z lo)))(h2:PO X y (tFO w0 (teo c Z hi))):
  PE X (.Subscript l (.Slice x y none p2) pos) (tF w0 (te c Z (.sl a lo hi))):=by
 refine PE.imp (Zk0 (Zh5 (w0:=w0) G.eK) ha h1 h2) fun σ H Q zz90=>?_
 obtain⟨w,σD,M,QD,S,g,aq⟩:=zz90
 refine Yg S g fun x w1 dx M1 x1 r1 rx q1=>?_
 refine⟨w1,σD,M1,_,S.next x1 r1,q1,fun l w2 M2 x2 r2 q2=>?_⟩
 refine⟨w2,σD,M2,_,(S.next x1 r1).next x2 r2,q2,fun h w3 M3 x3 r3 q3=>?_⟩
 exact⟨w3,M3,dx,QD,rfl,by rw[x3.K,x2.K,x1.K,S.K],r3,rx.ext (x2.trans x3),q3,aq.ext ((x1.trans x2).trans x3)⟩
theorem Zg9{z:Expr}(h:isM1 z=true):∃y p q,z= .UnaryOp .USub (.Constant (.int 1) y p) q:=by
 unfold isM1 at h
 split at h
 ·rename_i j y p q
  have:j=1:=by simpa using h
  subst this
  exact⟨y,p,q,rfl⟩
 ·cases h
theorem Z24{a:E}{l z:Expr}{p2 pos:Pos}(G:Good c k Z w0 X)(ha:PE X l (tF w0 (te c Z a)))(hz:isM1 z=true):PE X (.Subscript l (.Slice none none (some z) p2) pos) (tF w0 (te c Z (.rev a))):=by
 obtain⟨y,p,q,rfl⟩:=Zg9 hz
 refine PE.imp (Y34 ha (Z10 (Y31 Zl9 Zl5))) fun σ H Q zz91=>?_
 obtain⟨w,σD,M,QD,S,g,aq⟩:=zz91
 refine Yg S g fun x w1 dx M1 x1 r1 rx q1=>?_
 split at q1
 ·obtain⟨xs,z1,z2⟩:=q1
  obtain⟨_,rfl⟩:=Zy.mp rx
  obtain⟨_,vs,y1,y2,_⟩:=r1.listL z1
  have hK:w1.K=X.K:=by rw[x1.K,S.K,G.eK]
  rw[hK] at y1
  refine⟨1,rfl,-1,rfl,rfl,_,vs,rfl,y1,fun p hp=>?_⟩
  obtain⟨t1,t2,t3⟩:=Wg r1 hp y2.reverse
  exact aq _ _ _ _ (x1.trans t1) t2 t3 z2
 ·exact q1.elim
theorem Z05{a b:E}{l r:Expr}{pos:Pos}(G:Good c k Z w0 X)(ha:PE X l (tF w0 (te c Z a)))(hb:PE X r (tF w0 (te c Z b))):PE X (.Dict [some l] [r] pos) (tF w0 (te c Z (.dct a b))):=by
 refine PE.imp (Zs4 (Zb1 ha hb Zr7) rfl rfl (by simp) (by simp)) fun σ H Q zz92=>?_
 obtain⟨w,σD,M,QD,S,g,aq⟩:=zz92
 intro p hp
 rw[←S.heap] at hp
 obtain⟨y1,y2,y3⟩:=R8 (xs:=[]) (vs:=[]) S.rs hp (by unfold RKV;rfl)
 have hup:upd H p (.dK [])=(w.push p (.dK [])).H:=by rw[←S.heap];rfl
 have eμ:(w.push p (.dK [])).μ M.length=p:=by
  show(if M.length=w.n then p else w.μ M.length)=p
  rw[if_pos S.rs.len.symm]
 have ln:M.length< (w.push p (.dK [])).n:=by show M.length<w.n+1;rw[S.rs.len];omega
 rw[hup]
 refine Yg (S.next y1 y2) g fun x w1 dx M1 x1 r1 rx q1=>?_
 refine Yg ((S.next y1 y2).next x1 r1) q1 fun y w2 dy M2 x2 r2 ry q2=>?_
 obtain⟨kk,e1,e2,e3⟩:=q2
 obtain⟨hn,vs,u1,u2⟩:=r2.dict e2
 rw[(x1.trans x2).μ _ ln,eμ] at u1
 have ev:vs=[]:=by have:=u2.length;exact List.length_eq_zero_iff.mp (by simpa using this)
 subst ev
 cases Q8 e1 (rx.ext x2)
 refine⟨u1,[(kk,y)],rfl,by simp,?_⟩
 have u1':w2.H (w2.μ M.length)=some (.dK []):=by rw[(x1.trans x2).μ _ ln,eμ];exact u1
 obtain⟨t1,t2⟩:=Px (vs:=[(kk,y)]) (xs:=[(kk,dy)]) r2 hn u1' (by
  have:=(show RKV w2 [] [] by unfold RKV;rfl).put (k:=kk) ry
  exact this)
 have rr:RD (w2.alloc (w2.μ M.length) (.dK [(kk,y)])) (.ref M.length) (.ref p):=(y3.ext (x1.trans x2)).ext t1
 have:=aq _ _ _ _ (((y1.trans x1).trans x2).trans t1) t2 rr e3
 have hf:(w2.alloc (w2.μ M.length) (.dK [(kk,y)])).H=upd w2.H p (.dK (Pj [] [(kk,y)])):=by
  show upd w2.H (w2.μ M.length) (.dK [(kk,y)])=_
  rw[(x1.trans x2).μ _ ln,eμ]
  rfl
 rw[←hf]
 exact this
theorem Zg3{a b:E}{l r:Expr}{pos:Pos}(G:Good c k Z w0 X)(hn:Gn r=true)(ha:PE X l (tF w0 (te c Z a)))(hb:PE X r (tF w0 (te c Z b))):PE X (.Subscript l r pos) (tF w0 (te c Z (.ix a b))):=by
 have pl:Z60 r:=by
  intro o i
  cases r<;>first | rfl | cases hn
 refine PE.imp (Y66 (Zf8 (w0:=w0) G.eK G.units) ha hb pl) fun σ H Q zz93=>?_
 obtain⟨w,σD,M,QD,S,g,aq⟩:=zz93
 refine Yg S g fun x w1 dx M1 x1 r1 rx q1=>?_
 refine Yg (S.next x1 r1) q1 fun y w2 dy M2 x2 r2 ry q2=>?_
 exact⟨w2,M2,dx,dy,_,rfl,by rw[x2.K,x1.K,S.K],r2,rx.ext x2,ry,q2,fun d v hq hr=>aq v w2 d M2 (x1.trans x2) r2 hr hq⟩
theorem Pt{N':List Str}{js:List (Option Nat)}{tg:List Nat}{it:It}{cd:Eo}{e:E}{el t iter:Expr}{ifs:List Expr}{scope:Scope}{pos:Pos}(G:Good c k Z w0 X)(hc:k.calm=true)(ho:Td k.sc k.N N' js scope=true)(hns:Ny iter=true)(hn:N'.Nodup)
  (hi:PI X t iter (iF w0 (tit c Z it))) (ht:O3 {k with N:=N',sc:=Wn scope k.sc,cells:=false,own:=Gv scope,tries:=false,raises:=[]} tg t=true) (hd:chkC {k with N:=N',sc:=Wn scope k.sc,cells:=false,own:=Gv scope,tries:=false,raises:=[]} cd ifs=true) (he:chkE {k with N:=N',sc:=Wn scope k.sc,cells:=false,own:=Gv scope,tries:=false,raises:=[]} e el=true) (ihe:Zn3 c e) (ihd:Zm4 c cd):
  PE X (.ListComp el [⟨t,iter,ifs,0⟩] scope pos) (tF w0 (te c Z (.comp N' js tg it cd e)))∧
  ∀(i:Nat) (x:Str) (px spos:Pos),X.N[i]?=some x→X.env.scope.names.lookup x=some .local→swapsWith (.ListComp el [⟨t,iter,ifs,0⟩] scope pos) (some (.Name x px)) spos.line X.env=pure true→
   PS X (.Assign [.Name x px] (.ListComp el [⟨t,iter,ifs,0⟩] scope pos) spos) (fun R σ H=>tF w0 (te c Z (.comp N' js tg it cd e)) σ H fun v H1=>R.nx (σ.set i (some v)) H1):=by
 have ho':Td X.env.scope X.N N' js scope=true:=by rw[G.sc,G.N];exact ho
 have hf:∀x,foldedSetIterable iter X.env x=pure x:=by
  intro x
  cases iter<;>first | rfl | cases hns
 have hg:=fun cl C fp pins s H=>(Good.block G hc (scope:=scope) hn cl C fp pins s H).tgt tg t ht
 have hel:=fun cl C fp pins s H=>(ihe _ _ _ _ el (Good.block G hc (scope:=scope) hn cl C fp pins s H) he).1
 have key:∀σ H Q,tF w0 (te c Z (.comp N' js tg it cd e)) σ H Q→iF w0 (tit c Z it) σ H fun J H1=>∀p,H1 p=none→∃W:Nat→Nat→L2.St→Hp→Prop,(∃m,W 0 m (Tv js σ) (upd H1 p (.lst [])))∧
   ∀i m σc Hc,W i m σc Hc→(J.stop i Hc∧Q (.ref p) Hc)∨(J.go i Hc∧∀x H',J.yld i Hc x H'→gF w0 tg x σc H' fun σ2 H2=>tFT w0 (tcd c noX cd) σ2 H2 fun b H3=>if b=true then tF w0 (te c noX e) σ2 H3 fun y H4=>∃acc,H4 p=some (.lst acc)∧acc.length<sizeLine∧
    ∃m',m'<m∧W (i+1) m' σ2 (upd H4 p (.lst (acc++[y]))) else ∃m',m'<m∧W (i+1) m' σ2 H3):=by
  rintro σ H Q ⟨w,σD,M,QD,S,g,a⟩
  refine⟨w,σD,M,_,S,g,fun J w1 own xs M1 x1 R1 jk q1=>?_⟩
  exact Zf4 (S.ext.trans x1) rfl R1 (Zo9 (S.env.ext x1)) jk q1 fun v w2 d M2 x2 r2 rd2 zz94=>by obtain⟨e2,q2⟩:=zz94;exact a v w2 d M2 (x1.trans x2) r2 rd2 (by rw[e2];exact q2)
 have nocd:∀{σ:L2.St} {H:Hp} {P:Bool→Hp→Prop},cd= .no→tFT w0 (tcd c noX cd) σ H P→P true H:=by
  intro σ H P e h
  subst e
  obtain⟨w,σD,M,QD,S,g,a⟩:=h
  have:=a true w M (Ext.refl w) S.rs g
  rw[S.heap] at this
  exact this
 cases ifs with
 | nil=>
  have hcd:cd= .no:=by
   cases cd with
   | no=>rfl
   | yes e'=>exact absurd hd Bool.false_ne_true
  have key0:∀σ H Q,tF w0 (te c Z (.comp N' js tg it cd e)) σ H Q→Z49 js (iF w0 (tit c Z it)) (gF w0 tg) (tF w0 (te c noX e)) σ H Q:=by
   intro σ H Q h
   obtain⟨w,σD,M,QD,S,g,a⟩:=key σ H Q h
   refine⟨w,σD,M,QD,S,g,fun J w' own xs M' x' r' jk q p hp=>?_⟩
   obtain⟨W,w1,w2⟩:=a J w' own xs M' x' r' jk q p hp
   refine⟨W,w1,fun i m σc Hc hW=>(w2 i m σc Hc hW).imp id fun⟨z1,z2⟩=>⟨z1,fun x H' hy=>?_⟩⟩
   obtain⟨v1,v2,v3,v4,v5,v6,v7,v8,v9⟩:=z2 x H' hy
   refine⟨v1,v2,v3,v4,v5,v6,v7,v8,fun σ' σD' en q'=>?_⟩
   have:=nocd hcd (v9 σ' σD' en q')
   rw[if_pos rfl] at this
   exact this
  exact⟨PE.imp (Zh6 (G.calm hc) ho' hi hg hel hf) key0,fun i x px spos h1 h2 h3=>PS.imp (Zb5 (G.calm hc) ho' G.nd h1 h2 hi hg hel h3 hf) fun R σ H h=>key0 σ H _ h⟩
 | cons x0 ifs=>
  have hq:∀cl C fp pins s H,∃x,x0::ifs=[x]∧PT (cxC X N' scope cl C fp pins s H) x (tFT w0 (tcd c noX cd)):=fun cl C fp pins s H=>by
   rcases ihd.2 _ _ _ _ (x0::ifs) (Good.block G hc (scope:=scope) hn cl C fp pins s H) hd with h | ⟨h,_⟩
   ·exact h
   ·cases h
  have e0:ifs=[]:=by
   cases cd with
   | no=>exact absurd hd Bool.false_ne_true
   | yes e'=>
    cases ifs with
    | nil=>rfl
    | cons _ _=>exact absurd hd Bool.false_ne_true
  subst e0
  have hq':∀cl C fp pins s H,PT (cxC X N' scope cl C fp pins s H) x0 (tFT w0 (tcd c noX cd)):=fun cl C fp pins s H=>by
   obtain⟨x,h1,h2⟩:=hq cl C fp pins s H
   cases h1
   exact h2
  exact⟨PE.imp (Zg6 (G.calm hc) ho' hi hg hq' hel hf) key,fun i x px spos h1 h2 h3=>PS.imp (Zb8 (G.calm hc) ho' G.nd h1 h2 hi hg hq' hel h3 hf) fun R σ H h=>key σ H _ h⟩
end
section
variable{c:Cfg}{k:Ck}{Z:DX}{w0:Vw}{X:Cx}
theorem te_cmp_bl{op:Cm}{a b:E}(σD:DEnv)(M:Z1)(QD:DK)(h:te c Z (.cmp op a b) σD M QD):te c Z (.cmp op a b) σD M fun d M'=>(∃b,d= .bl b)∧QD d M':=by
 have e:(fun(d:D) (M':Z1)=>QD d M')=QD:=rfl
 unfold te at h ⊢
 have:(fun(x:D) (M1:Z1)=>te c Z b σD M1 fun y M2=>cmD M2 op x y fun r=>QD (.bl r) M2)=fun x M1=>te c Z b σD M1 fun y M2=>cmD M2 op x y fun r=>(∃b,D.bl r= .bl b)∧QD (.bl r) M2:=by
  funext x M1
  congr 1
  funext y M2
  congr 1
  funext r
  exact propext ⟨fun h=>⟨⟨r,rfl⟩,h⟩,fun h=>h.2⟩
 rw[this] at h
 exact h
theorem Zr9{a b:Expr}{rest:List Expr}{pos:Pos}{ta tb:TE}(ha:PE X a ta)(hb:PE X (.BoolOp .And (b::rest) pos) tb):PE X (.BoolOp .And (a::b::rest) pos) (fun σ H Q=>ta σ H fun x H1=>∃z,TruV X.K x H1 z∧if z=true then tb σ H1 Q else Q x H1):=by
 intro pins s σ H Q I h
 refine BoolOp_and (thn (ha pins s σ H _ I h) fun v s1 zz96=>?_)
 obtain⟨x,H1,I1,r1,q1⟩:=zz96
 refine thn (Em pins s1 σ H1 x v (fun z H2=>if z=true then tb σ H2 Q else Q x H2) I1 r1 q1) fun z s2 zz97=>?_
 obtain⟨H2,I2,q2⟩:=zz97
 cases z with
 | true=>exact hb pins s2 σ H2 Q I2 (by rw[if_pos rfl] at q2;exact q2)
 | false=>exact⟨x,H2,I2,r1,by rw[if_neg Bool.false_ne_true] at q2;exact q2⟩
theorem Y41{a b:Expr}{rest:List Expr}{pos:Pos}{ta tb:TE}(ha:PE X a ta)(hb:PE X (.BoolOp .Or (b::rest) pos) tb):PE X (.BoolOp .Or (a::b::rest) pos) (fun σ H Q=>ta σ H fun x H1=>∃z,TruV X.K x H1 z∧if z=true then Q x H1 else tb σ H1 Q):=by
 intro pins s σ H Q I h
 refine BoolOp_or (thn (ha pins s σ H _ I h) fun v s1 zz98=>?_)
 obtain⟨x,H1,I1,r1,q1⟩:=zz98
 refine thn (Em pins s1 σ H1 x v (fun z H2=>if z=true then Q x H2 else tb σ H2 Q) I1 r1 q1) fun z s2 zz99=>?_
 obtain⟨H2,I2,q2⟩:=zz99
 cases z with
 | false=>exact hb pins s2 σ H2 Q I2 (by rw[if_neg Bool.false_ne_true] at q2;exact q2)
 | true=>exact⟨x,H2,I2,r1,by rw[if_pos rfl] at q2;exact q2⟩
theorem N6{M:Z1}{n:Nat}{xs:List D}{ys:List (Key×D)}(h1:Zg M n=some xs)(h2:Zd M n=some ys):False:=by
 unfold Zg at h1
 unfold Zd at h2
 cases h:M[n]? with
 | none=>rw[h] at h2;cases h2
 | some c=>rw[h] at h1 h2;cases c<;>simp at h1 h2
theorem Ej{M:Z1}{x:D}{k:Bool}{A:Prop}{P:Bool→Prop}:truD M x (fun b=>if b=k then A else truD M x P)=truD M x (fun b=>if b=k then A else P b):=by
 cases x with
 | str y=>
  apply propext
  show(y.length≤sizeLine∧if ((y.length:Int) !=0)=k then A else(y.length≤sizeLine∧P ((y.length:Int) !=0)))↔(y.length≤sizeLine∧if ((y.length:Int) !=0)=k then A else P ((y.length:Int) !=0))
  split<;>simp (config:={contextual:=true})
 | ref n=>
  apply propext
  have key:∀Q:Bool→Prop,truD M (.ref n) Q↔(∃xs,Zg M n=some xs∧Q (!xs.isEmpty))∨(∃xs,Zd M n=some xs∧Q (!xs.isEmpty)):=fun Q=>Iff.rfl
  constructor
  ·intro h
   rcases(key _).mp h with⟨xs,h1,h2⟩ | ⟨xs,h1,h2⟩
   ·refine(key _).mpr (.inl ⟨xs,h1,?_⟩)
    split at h2
    ·rename_i e;rw[if_pos e];exact h2
    ·rename_i e
     rw[if_neg e]
     rcases(key _).mp h2 with⟨ys,g1,g2⟩ | ⟨ys,g1,g2⟩
     ·rw[h1] at g1;cases g1;exact g2
     ·exact(N6 h1 g1).elim
   ·refine(key _).mpr (.inr ⟨xs,h1,?_⟩)
    split at h2
    ·rename_i e;rw[if_pos e];exact h2
    ·rename_i e
     rw[if_neg e]
     rcases(key _).mp h2 with⟨ys,g1,g2⟩ | ⟨ys,g1,g2⟩
     ·exact(N6 g1 h1).elim
     ·rw[h1] at g1;cases g1;exact g2
  ·intro h
   rcases(key _).mp h with⟨xs,h1,h2⟩ | ⟨xs,h1,h2⟩
   ·refine(key _).mpr (.inl ⟨xs,h1,?_⟩)
    split at h2
    ·rename_i e;rw[if_pos e];exact h2
    ·rename_i e;rw[if_neg e];exact(key _).mpr (.inl ⟨xs,h1,h2⟩)
   ·refine(key _).mpr (.inr ⟨xs,h1,?_⟩)
    split at h2
    ·rename_i e;rw[if_pos e];exact h2
    ·rename_i e;rw[if_neg e];exact(key _).mpr (.inr ⟨xs,h1,h2⟩)
 | non=>rfl
 | bl b=>rfl
 | int i=>rfl
 | tup xs=>rfl
 | _=>rfl
theorem te_bop_tt{e e2:E}{r:Es}{σD:DEnv}{M:Z1}{QD:Bool→Z1→Prop}(h:ttD (tbop c Z true (.cons e (.cons e2 r))) σD M QD):
  ttD (te c Z e) σD M fun z M1=>if z=true then ttD (tbop c Z true (.cons e2 r)) σD M1 QD else QD false M1:=by
 have hh:(fun(x:D) (M1:Z1)=>truD M1 x fun b=>if b=true then ttD (tbop c Z true (.cons e2 r)) σD M1 QD else truD M1 x fun b=>QD b M1)=
   fun x M1=>truD M1 x fun z=>if z=true then ttD (tbop c Z true (.cons e2 r)) σD M1 QD else QD false M1:=by
  funext x M1
  rw[Ej]
  congr 1
  funext b
  cases b<;>rfl
 have h':te c Z e σD M fun(x:D) (M1:Z1)=>truD M1 x fun b=>if b=true then ttD (tbop c Z true (.cons e2 r)) σD M1 QD else truD M1 x fun b=>QD b M1:=h
 rw[hh] at h'
 exact h'
theorem te_bop_ff{e e2:E}{r:Es}{σD:DEnv}{M:Z1}{QD:Bool→Z1→Prop}(h:ttD (tbop c Z false (.cons e (.cons e2 r))) σD M QD):
  ttD (te c Z e) σD M fun z M1=>if z=true then QD true M1 else ttD (tbop c Z false (.cons e2 r)) σD M1 QD:=by
 have hh:(fun(x:D) (M1:Z1)=>truD M1 x fun b=>if b=false then ttD (tbop c Z false (.cons e2 r)) σD M1 QD else truD M1 x fun b=>QD b M1)=
   fun x M1=>truD M1 x fun z=>if z=true then QD true M1 else ttD (tbop c Z false (.cons e2 r)) σD M1 QD:=by
  funext x M1
  rw[Ej]
  congr 1
  funext b
  cases b<;>rfl
 have h':te c Z e σD M fun(x:D) (M1:Z1)=>truD M1 x fun b=>if b=false then ttD (tbop c Z false (.cons e2 r)) σD M1 QD else truD M1 x fun b=>QD b M1:=h
 rw[hh] at h'
 exact h'
end
theorem Z14{k:Ck}{a:E}{ex:Expr}(h:chkE k (.rev a) ex=true):∃l z p2 pos,ex= .Subscript l (.Slice none none (some z) p2) pos∧(chkE k a l&&isM1 z)=true:=by
 cases ex with
 | Subscript l r pos=>
  cases r with
  | Slice x y z p2=>
   cases x with
   | some _=>exact absurd h Bool.false_ne_true
   | none=>
   cases y with
   | some _=>exact absurd h Bool.false_ne_true
   | none=>
   cases z with
   | none=>exact absurd h Bool.false_ne_true
   | some z=>exact⟨_,_,_,_,rfl,h⟩
  | _=>exact absurd h Bool.false_ne_true
 | _=>exact absurd h Bool.false_ne_true
theorem Z09{k:Ck}{a b:E}{ex:Expr}(h:chkE k (.dct a b) ex=true):∃l r pos,ex= .Dict [some l] [r] pos∧(chkE k a l&&chkE k b r)=true:=by
 cases ex with
 | Dict ks vs pos=>
  cases ks with
  | nil=>exact absurd h Bool.false_ne_true
  | cons k0 ks=>
  cases k0 with
  | none=>exact absurd h Bool.false_ne_true
  | some l=>
  cases ks with
  | cons _ _=>exact absurd h Bool.false_ne_true
  | nil=>
  cases vs with
  | nil=>exact absurd h Bool.false_ne_true
  | cons r vs=>
  cases vs with
  | cons _ _=>exact absurd h Bool.false_ne_true
  | nil=>exact⟨l,r,pos,rfl,h⟩
 | _=>exact absurd h Bool.false_ne_true
theorem Z00{k:Ck}{es:Es}{ex:Expr}(h:Zk4 k (.zip es) ex=true):∃l ls p q,ex= .Call (.Name "zip" p) (l::ls) [] q∧(k.glob "zip"&&k.BN.contains "zip"&&Xm k es (l::ls))=true:=by
 cases ex with
 | Call fn as kws q=>
  cases fn with
  | Name x p=>
   cases as with
   | nil=>exact absurd h Bool.false_ne_true
   | cons l ls=>
   cases kws with
   | cons _ _=>exact absurd h Bool.false_ne_true
   | nil=>
    change (_&&_)=true at h
    simp only[Bool.and_eq_true,beq_iff_eq] at h
    obtain⟨⟨⟨rfl,h1⟩,h2⟩,h3⟩:=h
    refine⟨l,ls,p,q,rfl,?_⟩
    simp only[Bool.and_eq_true]
    exact⟨⟨h1,h2⟩,h3⟩
  | _=>exact absurd h Bool.false_ne_true
 | _=>exact absurd h Bool.false_ne_true
theorem te_cmp2_bl{c:Cfg}{Z:DX}{op op2:Cm}{a b d:E}(σD:DEnv)(M:Z1)(QD:DK)(h:te c Z (.cmp2 op op2 a b d) σD M QD):te c Z (.cmp2 op op2 a b d) σD M fun d M'=>(∃b,d= .bl b)∧QD d M':=by
 have e:(fun(x:D) (M:Z1)=>(∃b,x=D.bl b)∧QD x M)=fun x M=>(∃b,x=D.bl b)∧QD x M:=rfl
 have k1:∀(r:Bool) (M:Z1),((∃b,D.bl r= .bl b)∧QD (.bl r) M)=QD (.bl r) M:=fun r M=>propext ⟨fun z=>z.2,fun z=>⟨⟨r,rfl⟩,z⟩⟩
 show te c Z a σD M fun x M1=>te c Z b σD M1 fun y M2=>cmD M2 op x y fun r=>if r=true then te c Z d σD M2 fun z M3=>cmD M3 op2 y z fun r=>(∃b,D.bl r= .bl b)∧QD (.bl r) M3 else(∃b,D.bl false= .bl b)∧QD (.bl false) M2
 simp only[k1]
 exact h
theorem Cc{k:Ck}{op op2:Cm}{a b d:E}{ex:Expr}(h:chkE k (.cmp2 op op2 a b d) ex=true):∃l r r2 pos,ex= .Compare l [cmOf op,cmOf op2] [r,r2] pos∧lastMarks [cmOf op,cmOf op2] [r,r2]=false∧chkE k a l=true∧chkE k b r=true∧chkE k d r2=true:=by
 cases ex with
 | Compare l os rs pos=>
  match os,rs,h with
  | [o,o2],[r,r2],h=>
   change (_&&_)=true at h
   simp only[Bool.and_eq_true,beq_iff_eq] at h
   obtain⟨⟨⟨⟨⟨rfl,rfl⟩,h0⟩,h1⟩,h2⟩,h3⟩:=h
   refine⟨l,r,r2,pos,rfl,?_,h1,h2,h3⟩
   show behindInMarks (cmOf op2) r2=false
   cases r2 with
   | Set es kk p=>cases op2<;>first | (simp[isIn,Ny] at h0;done) | (simp[behindInMarks,cmOf])
   | _=>rfl
 | _=>exact absurd h Bool.false_ne_true
mutual
theorem Zs(c:Cfg):∀e:E,Zn3 c e
 | .var i,k,Z,w0,X,ex,G,h=>by
  cases ex with
  | Name x pos=>
   change (_&&_)=true at h
   simp only[Bool.and_eq_true,beq_iff_eq] at h
   exact both G (Z27 G h.1 h.2) fun _=>rfl
  | _=>exact absurd h Bool.false_ne_true
 | .int i,k,Z,w0,X,ex,G,h=>by
  cases ex with
  | Constant v j pos=>
   cases v with
   | int m=>
    change (_==_)=true at h
    simp only[beq_iff_eq] at h
    subst h
    exact both G (PE.imp Zl5 fun σ H Q q=>Qw (fun _ _=>Zc.mpr rfl) q) fun _=>rfl
   | _=>exact absurd h Bool.false_ne_true
  | _=>exact absurd h Bool.false_ne_true
 | .bl i,k,Z,w0,X,ex,G,h=>by
  cases ex with
  | Constant v j pos=>
   cases v with
   | bool m=>
    change (_==_)=true at h
    simp only[beq_iff_eq] at h
    subst h
    exact both G (PE.imp Y86 fun σ H Q q=>Qw (fun _ _=>Xd.mpr rfl) q) fun _=>rfl
   | _=>exact absurd h Bool.false_ne_true
  | _=>exact absurd h Bool.false_ne_true
 | .non,k,Z,w0,X,ex,G,h=>by
  cases ex with
  | Constant v j pos=>
   cases v with
   | none=>exact both G (PE.imp Zx6 fun σ H Q q=>Qw (fun _ _=>Yi.mpr rfl) q) fun _=>rfl
   | _=>exact absurd h Bool.false_ne_true
  | _=>exact absurd h Bool.false_ne_true
 | .str i,k,Z,w0,X,ex,G,h=>by
  cases ex with
  | Constant v j pos=>
   cases v with
   | str m=>
    change (_==_)=true at h
    simp only[beq_iff_eq] at h
    subst h
    exact both G (PE.imp Y02 fun σ H Q q=>Qw (fun _ _=>Y7.mpr rfl) q) fun _=>rfl
   | _=>exact absurd h Bool.false_ne_true
  | _=>exact absurd h Bool.false_ne_true
 | .ty t,k,Z,w0,X,ex,G,h=>by
  cases ex with
  | Name x pos=>
   change (_&&_)=true at h
   simp only[Bool.and_eq_true,beq_iff_eq,List.contains_iff_mem] at h
   obtain⟨g1,g2,g3⟩:=G.gl h.1.2
   exact both G (PE.imp (Zw7 (v:= .ty (Yt t)) g1 (G.blt x h.2) (by rw[h.1.1];exact Zq9 t) rfl g3 g2) fun σ H Q q=>Qw (fun _ _=>Zt0.mpr rfl) q) fun _=>rfl
  | _=>exact absurd h Bool.false_ne_true
 | .glb g,k,Z,w0,X,ex,G,h=>by
  cases ex with
  | Name x pos=>
   change (_&&_)=true at h
   simp only[Bool.and_eq_true,beq_iff_eq] at h
   exact both G (Z85 G h.1 h.2) fun _=>rfl
  | _=>exact absurd h Bool.false_ne_true
 | .bin op a b,k,Z,w0,X,ex,G,h=>by
  cases ex with
  | BinOp l o r pos=>
   change (_&&_)=true at h
   simp only[Bool.and_eq_true,beq_iff_eq] at h
   obtain⟨⟨rfl,h1⟩,h2⟩:=h
   exact both G (PE.imp (Y80 (Zd9 (w0:=w0) op) (Zs c a k Z w0 X l G h1).1 (Zs c b k Z w0 X r G h2).1) fun σ H Q q=>Z25 q) fun _=>rfl
  | _=>exact absurd h Bool.false_ne_true
 | .neg a,k,Z,w0,X,ex,G,h=>by
  cases ex with
  | UnaryOp o l pos=>
   cases o with
   | USub=>
    have h1:chkE k a l=true:=h
    refine both G (PE.imp (Y31 Zl9 (Zs c a k Z w0 X l G h1).1) fun σ H Q zz100=>?_) fun _=>rfl
    obtain⟨w,σD,M,QD,S,g,aq⟩:=zz100
    refine Yg S g fun x w1 dx M1 x1 r1 rx q1=>?_
    split at q1
    ·cases Zc.mp rx
     exact⟨_,rfl,aq _ w1 _ M1 x1 r1 (Zc.mpr rfl) q1⟩
    ·exact q1.elim
   | _=>exact absurd h Bool.false_ne_true
  | _=>exact absurd h Bool.false_ne_true
 | .not a,k,Z,w0,X,ex,G,h=>by
  cases ex with
  | UnaryOp o l pos=>
   cases o with
   | Not=>
    have h1:chkE k a l=true:=h
    obtain⟨i1,i2⟩:=Zs c a k Z w0 X l G h1
    refine⟨PE.imp (Zo8 i1) fun σ H Q ⟨w,σD,M,QD,S,g,aq⟩=>?_,fun hn=>PT.imp (Y15 (i2 hn)) fun σ H Q ⟨w,σD,M,QD,S,g,aq⟩=>?_⟩
    ·refine Yg S g fun x w1 dx M1 x1 r1 rx q1=>?_
     obtain⟨b,t1,t2⟩:=Vz (K:=X.K) (by rw[x1.K,S.K,G.eK]) r1 rx q1
     exact⟨b,t1,aq _ w1 _ M1 x1 r1 (Xd.mpr rfl) t2⟩
    ·exact⟨w,σD,M,fun b M1=>QD (!b) M1,S,g,fun b w' M' x' r' q'=>aq _ w' M' x' r' q'⟩
   | _=>exact absurd h Bool.false_ne_true
  | _=>exact absurd h Bool.false_ne_true
 | .cmp2 op op2 a b d,k,Z,w0,X,ex,G,h=>by
  obtain⟨l,r,r2,pos,rfl,h0,h1,h2,h3⟩:=Cc h
  have ia:=(Zs c a k Z w0 X l G h1).1
  have ib:=(Zs c b k Z w0 X r G h2).1
  have id:=(Zs c d k Z w0 X r2 G h3).1
  exact⟨PE.imp (Zg5 (Vh (w0:=w0) G.eK G.units op) (Vh (w0:=w0) G.eK G.units op2) ia ib id h0) fun σ H Q q=>Qk q,fun _=>Z48 (PT.imp (Ze0 (Vh (w0:=w0) G.eK G.units op) (Vh (w0:=w0) G.eK G.units op2) ia ib id h0) fun σ H Q q=>by
   obtain⟨w,σD,M,QD,S,g0,a⟩:=q
   exact Qk ⟨w,σD,M,QD,S,g0,a⟩) te_cmp2_bl⟩
 | .cmp op a b,k,Z,w0,X,ex,G,h=>by
  cases ex with
  | Compare l os rs pos=>
   match os,rs,h with
   | [o],[r],h=>
    change (_&&_)=true at h
    simp only[Bool.and_eq_true,beq_iff_eq] at h
    obtain⟨⟨⟨rfl,h0⟩,h1⟩,h2⟩:=h
    have hm:behindInMarks (cmOf op) r=false:=by
     cases r with
     | Set es kk p=>cases op<;>first | (simp[isIn,Ny] at h0;done) | (simp[behindInMarks,cmOf])
     | _=>rfl
    have ia:=(Zs c a k Z w0 X l G h1).1
    have ib:=(Zs c b k Z w0 X r G h2).1
    refine⟨PE.imp (Zv5 (Vh (w0:=w0) G.eK G.units op) ia ib hm) fun σ H Q q=>Oy q,fun _=>Z48 (PT.imp (Zt7 (Vh (w0:=w0) G.eK G.units op) ia ib hm) fun σ H Q q=>Oy q) te_cmp_bl⟩
   | [],_,h=>exact absurd h Bool.false_ne_true
   | [_],[],h=>exact absurd h Bool.false_ne_true
   | [_],_::_::_,h=>exact absurd h Bool.false_ne_true
   | _::_::_,_,h=>exact absurd h Bool.false_ne_true
  | _=>exact absurd h Bool.false_ne_true
 | .bop b es,k,Z,w0,X,ex,G,h=>by
  cases ex with
  | BoolOp o ls pos=>
   cases b with
   | true=>
    cases o with
    | And=>
     obtain⟨i1,i2⟩:=(Xj c es k Z w0 X ls G h).2 true pos
     exact⟨i1,fun hn=>(i2 hn).pt⟩
    | Or=>exact absurd h Bool.false_ne_true
   | false=>
    cases o with
    | Or=>
     obtain⟨i1,i2⟩:=(Xj c es k Z w0 X ls G h).2 false pos
     exact⟨i1,fun hn=>(i2 hn).pt⟩
    | And=>exact absurd h Bool.false_ne_true
  | _=>cases b<;>exact absurd h Bool.false_ne_true
 | .ife t a b,k,Z,w0,X,ex,G,h=>by
  cases ex with
  | IfExp x l r pos=>
   change (_&&_)=true at h
   simp only[Bool.and_eq_true] at h
   refine⟨PE.imp (Zj7 ((Zs c t k Z w0 X x G h.1.1.1).2 h.2) (Zs c a k Z w0 X l G h.1.1.2).1 (Zs c b k Z w0 X r G h.1.2).1) fun σ H Q zz103=>?_,fun hn=>by simp[noIf] at hn⟩
   obtain⟨w,σD,M,QD,S,g,aq⟩:=zz103
   refine⟨w,σD,M,fun r M1=>if r=true then te c Z a σD M1 QD else te c Z b σD M1 QD,S,g,fun r w1 M1 x1 r1 q1=>?_⟩
   cases r with
   | true=>rw[if_pos rfl] at q1 ⊢;exact Yg (S.next x1 r1) q1 (aq.ext x1)
   | false=>rw[if_neg Bool.false_ne_true] at q1 ⊢;exact Yg (S.next x1 r1) q1 (aq.ext x1)
  | _=>exact absurd h Bool.false_ne_true
 | .lst es,k,Z,w0,X,ex,G,h=>by
  cases ex with
  | List ls pos=>
   refine both G (PE.imp (Y47 (Xj c es k Z w0 X ls G h).1) fun σ H Q zz104=>?_) fun _=>rfl
   obtain⟨w,σD,M,QD,S,g,aq⟩:=zz104
   refine⟨w,σD,M,_,S,g,fun vs w1 ds M1 x1 r1 rd1 q1=>⟨by rw[rd1.length];exact q1.1,fun p hp=>?_⟩⟩
   obtain⟨y1,y2,y3⟩:=Wg r1 hp rd1
   exact aq _ _ _ _ (x1.trans y1) y2 y3 q1.2
  | _=>exact absurd h Bool.false_ne_true
 | .tup es,k,Z,w0,X,ex,G,h=>by
  cases ex with
  | Tuple ls kk pos=>
   refine both G (PE.imp (Y20 (Xj c es k Z w0 X ls G h).1) fun σ H Q zz105=>?_) fun _=>rfl
   obtain⟨w,σD,M,QD,S,g,aq⟩:=zz105
   refine⟨w,σD,M,_,S,g,fun vs w1 ds M1 x1 r1 rd1 q1=>⟨by rw[rd1.length];exact q1.1,fun p hp=>?_⟩⟩
   obtain⟨y1,y2,y3⟩:=Rg r1 hp rd1
   exact aq _ _ _ _ (x1.trans y1) y2 y3 q1.2
  | _=>exact absurd h Bool.false_ne_true
 | .dict0,k,Z,w0,X,ex,G,h=>by
  cases ex with
  | Dict ks vs pos=>
   match ks,vs,h with
   | [],[],h=>
    refine both G (PE.imp Ze2 fun σ H Q zz106=>?_) fun _=>rfl
    obtain⟨w,σD,M,QD,S,g,aq⟩:=zz106
    intro p hp
    rw[←S.heap] at hp
    obtain⟨y1,y2,y3⟩:=R8 (xs:=[]) (vs:=[]) S.rs hp (by unfold RKV;rfl)
    have:=aq _ _ _ _ y1 y2 y3 g
    rw[←S.heap]
    exact this
   | [],_::_,h=>exact absurd h Bool.false_ne_true
   | _::_,_,h=>exact absurd h Bool.false_ne_true
  | _=>exact absurd h Bool.false_ne_true
 | .dct a b,k,Z,w0,X,ex,G,h=>by
  obtain⟨l,r,pos,rfl,h2⟩:=Z09 h
  rw[Bool.and_eq_true] at h2
  exact both G (Z05 G (Zs c a k Z w0 X l G h2.1).1 (Zs c b k Z w0 X r G h2.2).1) fun _=>rfl
 | .ix a b,k,Z,w0,X,ex,G,h=>by
  cases ex with
  | Subscript l r pos=>
   change (_&&_)=true at h
   simp only[Bool.and_eq_true] at h
   exact both G (Zg3 G h.1.1 (Zs c a k Z w0 X l G h.1.2).1 (Zs c b k Z w0 X r G h.2).1) fun _=>rfl
  | _=>exact absurd h Bool.false_ne_true
 | .sl a lo hi,k,Z,w0,X,ex,G,h=>by
  cases ex with
  | Subscript l r pos=>
   cases r with
   | Slice x y z p2=>
    cases z with
    | none=>
     change (_&&_)=true at h
     simp only[Bool.and_eq_true] at h
     exact both G (Zf1 G (Zs c a k Z w0 X l G h.1.1).1 ((E8 c lo).1 k Z w0 X x G h.1.2) ((E8 c hi).1 k Z w0 X y G h.2)) fun _=>rfl
    | some _=>exact absurd h Bool.false_ne_true
   | _=>exact absurd h Bool.false_ne_true
  | _=>exact absurd h Bool.false_ne_true
 | .rev a,k,Z,w0,X,ex,G,h=>by
  obtain⟨l,z,p2,pos,rfl,h2⟩:=Z14 h
  rw[Bool.and_eq_true] at h2
  exact both G (Z24 G (Zs c a k Z w0 X l G h2.1).1 h2.2) fun _=>rfl
 | .call f es,k,Z,w0,X,ex,G,h=>by
  cases ex with
  | Call fn ls kws pos=>
   cases fn with
   | Name x np=>
    cases kws with
    | nil=>
     change (_&&_)=true at h
     simp only[Bool.and_eq_true,beq_iff_eq] at h
     exact both G (Bm G h.1.1.1 h.1.1.2 h.1.2 h.2 (Xj c es k Z w0 X ls G h.2).1) fun _=>rfl
    | cons _ _=>exact absurd h Bool.false_ne_true
   | _=>exact absurd h Bool.false_ne_true
  | _=>exact absurd h Bool.false_ne_true
 | .bf b es,k,Z,w0,X,ex,G,h=>by
  cases ex with
  | Call fn ls kws pos=>
   cases fn with
   | Name x np=>
    cases kws with
    | nil=>
     cases ls with
     | nil=>exact absurd h Bool.false_ne_true
     | cons l ls=>
      change (_&&_)=true at h
      simp only[Bool.and_eq_true,beq_iff_eq,Bool.or_eq_true,List.contains_iff_mem] at h
      exact both G (Zf2 G h.1.1.1.1 h.1.1.1.2 h.1.1.2 h.1.2 h.2 (Xj c es k Z w0 X (l::ls) G h.2).1) fun _=>rfl
    | cons _ _=>cases ls<;>exact absurd h Bool.false_ne_true
   | _=>cases ls<;>cases kws<;>exact absurd h Bool.false_ne_true
  | _=>exact absurd h Bool.false_ne_true
 | .mt m o es,k,Z,w0,X,ex,G,h=>by
  cases ex with
  | Call fn ls kws pos=>
   cases fn with
   | Attribute l nm ap=>
    cases kws with
    | nil=>
     change (_&&_)=true at h
     simp only[Bool.and_eq_true,beq_iff_eq,decide_eq_true_eq] at h
     obtain⟨⟨⟨⟨⟨rfl,h1⟩,h2⟩,h3⟩,h4⟩,h5⟩:=h
     exact both G (Zc5 G h1 (by rw[h2];simp) h3 h5 (Zs c o k Z w0 X l G h4).1 (Xj c es k Z w0 X ls G h5).1) fun _=>rfl
    | cons _ _=>exact absurd h Bool.false_ne_true
   | _=>exact absurd h Bool.false_ne_true
  | _=>exact absurd h Bool.false_ne_true
 | .comp N' js tg it cd e,k,Z,w0,X,ex,G,h=>by
  cases ex with
  | ListComp el gens scope pos=>
   match gens,h with
   | [⟨t,iter,ifs,as⟩],h=>
    rcases as with(_ | n) | n
    ·change (_&&_)=true at h
     simp only[Bool.and_eq_true,decide_eq_true_eq] at h
     obtain⟨⟨⟨⟨⟨⟨⟨⟨h1,h2⟩,h3⟩,h4⟩,h5⟩,h6⟩,h7⟩,h8⟩,h9⟩:=h
     exact both G (Pt G h1 h2 h3 h5 (Z32 c it k Z w0 X t iter G h4 h9) h6 h7 h8 (Zs c e) (E8 c cd)).1 fun _=>rfl
    ·exact absurd h Bool.false_ne_true
    ·exact absurd h Bool.false_ne_true
   | [],h=>exact absurd h Bool.false_ne_true
   | ⟨_,_,_,as⟩::_::_,h=>rcases as with(_ | _) | _<;>exact absurd h Bool.false_ne_true
  | _=>exact absurd h Bool.false_ne_true
theorem Xj(c:Cfg):∀es:Es,Zs0 c es
 | .nil,k,Z,w0,X,ls,G,h=>by
  cases ls with
  | nil=>
   refine⟨PA.imp Ei fun σ H Q zz107=>?_,fun b pos=>⟨PE.imp (t:=fun _ _ _=>False) (fun _ _ _ _ _ _ h=>h.elim) fun σ H Q zz108=>by obtain⟨w,σD,M,QD,S,g,aq⟩:=zz108;exact g,fun _ whole pins s σ H Q I zz109=>by obtain⟨w,σD,M,QD,S,g,aq⟩:=zz109;exact g.elim⟩⟩
   obtain⟨w,σD,M,QD,S,g,aq⟩:=zz107
   have:=aq [] w [] M (Ext.refl w) S.rs (RDs.nil w) g
   rw[S.heap] at this
   exact this
  | cons l ls=>exact absurd h Bool.false_ne_true
 | .cons e r,k,Z,w0,X,ls,G,h=>by
  cases ls with
  | nil=>exact absurd h Bool.false_ne_true
  | cons l ls=>
   change (_&&_)=true at h
   simp only[Bool.and_eq_true] at h
   obtain⟨ie,it⟩:=Zs c e k Z w0 X l G h.1.1
   obtain⟨ir,ib⟩:=Xj c r k Z w0 X ls G h.2
   refine⟨PA.imp (Ry ie ir (Zu h.1.2)) fun σ H Q ⟨w,σD,M,QD,S,g,aq⟩=>?_,fun b pos=>?_⟩
   ·refine Yg S g fun v w1 d M1 x1 r1 rd1 q1=>?_
    refine⟨w1,σD,M1,_,S.next x1 r1,q1,fun vs w2 ds M2 x2 r2 rd2 q2=>?_⟩
    exact aq _ w2 _ M2 (x1.trans x2) r2 (RDs.cons (rd1.ext x2) rd2) q2
   ·cases r with
    | nil=>
     cases ls with
     | cons _ _=>exact absurd h.2 Bool.false_ne_true
     | nil=>
      refine⟨PE.imp (Y24 ie) fun σ H Q q=>q,fun hn=>?_⟩
      have hn':noIf e=true:=by simpa[Co] using hn
      cases b with
      | true=>exact fun whole pins s σ H Q I q=>Zo7 (it hn') whole pins s σ H Q I q
      | false=>exact fun whole pins s σ H Q I q=>Y04 (it hn') whole pins s σ H Q I q
    | cons e2 r2=>
     cases ls with
     | nil=>exact absurd h.2 Bool.false_ne_true
     | cons l2 ls=>
      obtain⟨jb,jw⟩:=ib b pos
      constructor
      ·cases b with
       | true=>
        refine PE.imp (Zr9 ie jb) fun σ H Q zz111=>?_
        obtain⟨w,σD,M,QD,S,g,aq⟩:=zz111
        refine Yg S g fun v w1 d M1 x1 r1 rd1 q1=>?_
        obtain⟨z,t1,t2⟩:=Vz (K:=X.K) (by rw[x1.K,S.K,G.eK]) r1 rd1 q1
        refine⟨z,t1,?_⟩
        cases z with
        | true=>rw[if_pos rfl] at t2 ⊢;exact Yg (S.next x1 r1) t2 (aq.ext x1)
        | false=>rw[if_neg Bool.false_ne_true] at t2 ⊢;exact aq _ w1 _ M1 x1 r1 rd1 t2
       | false=>
        refine PE.imp (Y41 ie jb) fun σ H Q zz112=>?_
        obtain⟨w,σD,M,QD,S,g,aq⟩:=zz112
        refine Yg S g fun v w1 d M1 x1 r1 rd1 q1=>?_
        obtain⟨z,t1,t2⟩:=Vz (K:=X.K) (by rw[x1.K,S.K,G.eK]) r1 rd1 q1
        refine⟨z,t1,?_⟩
        cases z with
        | false=>rw[if_pos rfl] at t2;rw[if_neg Bool.false_ne_true];exact Yg (S.next x1 r1) t2 (aq.ext x1)
        | true=>rw[if_neg (by decide)] at t2;rw[if_pos rfl];exact aq _ w1 _ M1 x1 r1 rd1 t2
      ·intro hn
       have hn':noIf e=true∧Co (.cons e2 r2)=true:=by
        have:(noIf e&&Co (.cons e2 r2))=true:=hn
        simpa using this
       have jw':=jw hn'.2
       cases b with
       | true=>
        rintro whole pins s σ H Q I ⟨w,σD,M,QD,S,g,aq⟩
        refine Y50 (it hn'.1) jw' whole pins s σ H Q I ?_
        refine⟨w,σD,M,fun z M1=>if z=true then ttD (tbop c Z true (.cons e2 r2)) σD M1 QD else QD false M1,S,?_,fun z w1 M1 x1 r1 q1=>?_⟩
        ·exact te_bop_tt g
        ·cases z with
         | true=>rw[if_pos rfl] at q1 ⊢;exact⟨w1,σD,M1,QD,S.next x1 r1,q1,fun z w2 M2 x2 r2 q2=>aq z w2 M2 (x1.trans x2) r2 q2⟩
         | false=>rw[if_neg Bool.false_ne_true] at q1 ⊢;exact aq _ w1 M1 x1 r1 q1
       | false=>
        rintro whole pins s σ H Q I ⟨w,σD,M,QD,S,g,aq⟩
        refine Y75 (it hn'.1) jw' whole pins s σ H Q I ?_
        refine⟨w,σD,M,fun z M1=>if z=true then QD true M1 else ttD (tbop c Z false (.cons e2 r2)) σD M1 QD,S,?_,fun z w1 M1 x1 r1 q1=>?_⟩
        ·exact te_bop_ff g
        ·cases z with
         | true=>rw[if_pos rfl] at q1 ⊢;exact aq _ w1 M1 x1 r1 q1
         | false=>rw[if_neg Bool.false_ne_true] at q1 ⊢;exact⟨w1,σD,M1,QD,S.next x1 r1,q1,fun z w2 M2 x2 r2 q2=>aq z w2 M2 (x1.trans x2) r2 q2⟩
theorem E8(c:Cfg):∀eo:Eo,Zm4 c eo
 | .no=>⟨fun k Z w0 X lo G h=>by
   cases lo with
   | none=>
    rintro pins s σ H Q I ⟨w,σD,M,QD,S,g,aq⟩
    refine Zt5 pins s σ H Q I ?_
    have:=aq none w M (Ext.refl w) S.rs g
    rw[S.heap] at this
    exact this
   | some _=>exact absurd h Bool.false_ne_true,fun k Z w0 X ls G h=>by
   cases ls with
   | nil=>exact .inr ⟨rfl,rfl⟩
   | cons _ _=>exact absurd h Bool.false_ne_true⟩
 | .yes e=>⟨fun k Z w0 X lo G h=>by
   cases lo with
   | none=>exact absurd h Bool.false_ne_true
   | some x=>
    rintro pins s σ H Q I ⟨w,σD,M,QD,S,g,aq⟩
    refine Z10 (Zs c e k Z w0 X x G h).1 pins s σ H Q I ?_
    refine Yg S g fun v w1 d M1 x1 r1 rd1 q1=>?_
    split at q1
    ·cases Zc.mp rd1
     exact⟨_,rfl,aq _ w1 M1 x1 r1 q1⟩
    ·exact q1.elim,fun k Z w0 X ls G h=>by
   match ls,h with
   | [x],h=>
    change (_&&_)=true at h
    simp only[Bool.and_eq_true] at h
    exact .inl ⟨x,rfl,(Zs c e k Z w0 X x G h.1).2 h.2⟩
   | [],h=>exact absurd h Bool.false_ne_true
   | _::_::_,h=>exact absurd h Bool.false_ne_true⟩
theorem Z32(c:Cfg):∀it:It,Y49 c it
 | .seq e,k,Z,w0,X,tg,ex,G,h,_=>by
  refine PI.imp (Y16 (Zs c e k Z w0 X ex G h).1) fun σ H R zz113=>?_
  obtain⟨w,σD,M,QD,S,g,aq⟩:=zz113
  refine Yg S g fun v w1 d M1 x1 r1 rd1 q1=>?_
  have hK:X.K=w1.K:=by rw[x1.K,S.K,G.eK]
  unfold itD at q1
  split at q1
  ·obtain⟨hn,rfl⟩:=Zy.mp rd1
   obtain⟨xs,z1,z2⟩:=q1
   obtain⟨_,vs,y1,y2,_⟩:=r1.listL z1
   rw[←hK] at y1
   exact .inl ⟨_,rfl,⟨vs,y1⟩,aq _ w1 _ _ M1 x1 r1 (Zd0 hK hn) z2⟩
  ·obtain⟨a,vs,rfl,y1,y2⟩:=Xe.mp rd1
   exact .inr ⟨a,rfl,⟨vs,.of y1⟩,aq _ w1 _ _ M1 x1 r1 (Z20 hK (.of y1) y2) q1⟩
  ·obtain⟨a,vs,rfl,y1,y2⟩:=Ol.mp rd1
   exact .inr ⟨a,rfl,⟨vs,by rw[hK];exact y1⟩,aq _ w1 _ _ M1 x1 r1 (Z20 hK y1 y2) q1⟩
  ·exact q1.elim
 | .rng1 a,k,Z,w0,X,tg,ex,G,h,_=>by
  cases ex with
  | Call fn ls kws pos=>
   cases fn with
   | Name x np=>
    match ls,kws,h with
    | [l],[],h=>
     change (_&&_)=true at h
     simp only[Bool.and_eq_true,beq_iff_eq,List.contains_iff_mem] at h
     obtain⟨⟨⟨⟨rfl,h1⟩,h2⟩,h3⟩,h4⟩:=h
     obtain⟨g1,g2,g3⟩:=G.gl h1
     refine PI.imp (Z95 g1 (G.blt _ h2) (Ry (Zs c a k Z w0 X l G h4).1 Ei (Zu h3)) (Zu h3)) fun σ H R zz114=>?_
     obtain⟨w,σD,M,QD,S,g,aq⟩:=zz114
     refine Yg S g fun v w1 d M1 x1 r1 rd1 q1=>?_
     split at q1
     ·cases Zc.mp rd1
      exact⟨_,rfl,q1.1,q1.2.1,aq _ w1 _ _ M1 x1 r1 Z37 q1.2.2⟩
     ·exact q1.elim
    | [],_,h=>exact absurd h Bool.false_ne_true
    | [_],_::_,h=>exact absurd h Bool.false_ne_true
    | _::_::_,_,h=>exact absurd h Bool.false_ne_true
   | _=>exact absurd h Bool.false_ne_true
  | _=>exact absurd h Bool.false_ne_true
 | .rng2 a b,k,Z,w0,X,tg,ex,G,h,_=>by
  cases ex with
  | Call fn ls kws pos=>
   cases fn with
   | Name x np=>
    match ls,kws,h with
    | [l,r],[],h=>
     change (_&&_)=true at h
     simp only[Bool.and_eq_true,beq_iff_eq,List.contains_iff_mem] at h
     obtain⟨⟨⟨⟨⟨⟨rfl,h1⟩,h2⟩,h3⟩,h5⟩,h4⟩,h6⟩:=h
     obtain⟨g1,g2,g3⟩:=G.gl h1
     refine PI.imp (Z80 g1 (G.blt _ h2) (Ry (Zs c a k Z w0 X l G h4).1 (Ry (Zs c b k Z w0 X r G h6).1 Ei (Zu h5)) (Zu h3)) (by rw[Zu h3,Zu h5];rfl) (Zu h5)) fun σ H R zz115=>?_
     obtain⟨w,σD,M,QD,S,g,aq⟩:=zz115
     refine Yg S g fun v w1 d M1 x1 r1 rd1 q1=>?_
     refine Yg (S.next x1 r1) q1 fun v2 w2 d2 M2 x2 r2 rd2 q2=>?_
     split at q2
     ·cases Zc.mp rd1
      cases Zc.mp rd2
      exact⟨_,_,rfl,q2.1,aq _ w2 _ _ M2 (x1.trans x2) r2 Z37 q2.2⟩
     ·exact q2.elim
    | [],_,h=>exact absurd h Bool.false_ne_true
    | [_],_,h=>exact absurd h Bool.false_ne_true
    | [_,_],_::_,h=>exact absurd h Bool.false_ne_true
    | _::_::_::_,_,h=>exact absurd h Bool.false_ne_true
   | _=>exact absurd h Bool.false_ne_true
  | _=>exact absurd h Bool.false_ne_true
 | .zip es,k,Z,w0,X,tg,ex,G,h,ht=>by
  cases tg with
  | Tuple elts ctx tp=>
   obtain⟨l,ls,p,q,rfl,h2⟩:=Z00 h
   simp only[Bool.and_eq_true,List.contains_iff_mem] at h2
   obtain⟨⟨h3,h4⟩,h5⟩:=h2
   obtain⟨g1,g2,g3⟩:=G.gl h3
   obtain⟨s1,s2⟩:=Y58 h5
   refine PI.imp (Zx3 g1 (G.blt _ h4) (Xj c es k Z w0 X (l::ls) G h5).1 s1 s2) fun σ H R zz116=>?_
   obtain⟨w,σD,M,QD,S,g,aq⟩:=zz116
   refine⟨w,σD,M,_,S,g,fun vs w1 ds M1 x1 r1 rd1 q1=>?_⟩
   obtain⟨da,db,rfl,q2⟩:=Q2 q1
   obtain⟨n,rfl,q3⟩:=W7 q2
   obtain⟨m,rfl,ys,zs,z1,z2,z3⟩:=W7 q3
   obtain⟨v1,v2,rfl,a1,a2⟩:=rds2 rd1
   obtain⟨hn,rfl⟩:=Zy.mp a1
   obtain⟨hm,rfl⟩:=Zy.mp a2
   have hK:X.K=w1.K:=by rw[x1.K,S.K,G.eK]
   obtain⟨_,us,y1,_,_⟩:=r1.listL z1
   obtain⟨_,vs,y2,_,_⟩:=r1.listL z2
   rw[←hK] at y1 y2
   exact⟨_,_,rfl,⟨us,y1⟩,⟨vs,y2⟩,aq _ w1 _ _ M1 x1 r1 (Zt1 hK hn hm) z3⟩
  | _=>exact absurd ht Bool.false_ne_true
 | .enm a,k,Z,w0,X,tg,ex,G,h,ht=>by
  cases tg with
  | Tuple elts ctx tp=>
   cases ex with
   | Call fn ls kws pos=>
    cases fn with
    | Name x np=>
     match ls,kws,h with
     | [l],[],h=>
      change (_&&_)=true at h
      simp only[Bool.and_eq_true,beq_iff_eq,List.contains_iff_mem] at h
      obtain⟨⟨⟨⟨rfl,h1⟩,h2⟩,h3⟩,h4⟩:=h
      obtain⟨g1,g2,g3⟩:=G.gl h1
      refine PI.imp (Zu6 g1 (G.blt _ h2) (Ry (Zs c a k Z w0 X l G h4).1 Ei (Zu h3)) (Zu h3)) fun σ H R zz117=>?_
      obtain⟨w,σD,M,QD,S,g,aq⟩:=zz117
      refine Yg S g fun v w1 d M1 x1 r1 rd1 q1=>?_
      have hK:X.K=w1.K:=by rw[x1.K,S.K,G.eK]
      split at q1
      ·obtain⟨hn,rfl⟩:=Zy.mp rd1
       obtain⟨xs,z1,z2⟩:=q1
       obtain⟨_,vs,y1,y2,_⟩:=r1.listL z1
       rw[←hK] at y1
       exact⟨_,rfl,⟨vs,y1⟩,aq _ w1 _ _ M1 x1 r1 (Zf5 hK hn) z2⟩
      ·exact q1.elim
     | [],_,h=>exact absurd h Bool.false_ne_true
     | [_],_::_,h=>exact absurd h Bool.false_ne_true
     | _::_::_,_,h=>exact absurd h Bool.false_ne_true
    | _=>exact absurd h Bool.false_ne_true
   | _=>exact absurd h Bool.false_ne_true
  | _=>exact absurd ht Bool.false_ne_true
end
noncomputable def Eu:Expr→Bool
 | .ListComp .. | .SetComp .. | .DictComp ..=>false
 | _=>true
noncomputable def Bw:Expr→Bool
 | .Tuple ..=>false
 | _=>true
noncomputable def Zl2:Expr→Bool
 | .Name ..=>true
 | _=>false
noncomputable def Zt8(k:Ck)(t x:Expr):Bool:=match t,x with
 | .Name n pos,.ListComp _ _ scope p=>k.sc.kind== .function&&k.loc n&&pos.line==p.line&&!(scope.names.any fun(m,j)=>m==n&&(j== .local || j== .cell))
 | _,_=>false
noncomputable def Y46(k:Ck)(t x:Expr):Bool:=match t,x with
 | .Name n _,.ListComp ..=>k.sc.names.lookup n==some .cell
 | _,_=>false
noncomputable def chkB(k:Ck)(h:Tk)(f:Nat)(es:Es):Stmt→Bool
 | .Expr (.Call (.Name x p) ls [] q) _=>match h with
  | .drop=>chkE k (.call f es) (.Call (.Name x p) ls [] q)
  | _=>false
 | .Return (some (.Call (.Name x p) ls [] q)) _=>match h with
  | .ret=>chkE k (.call f es) (.Call (.Name x p) ls [] q)
  | _=>false
 | .Assign [.Name n _] (.Call (.Name x p) ls [] q) _=>match h with
  | .set i=>k.N[i]?==some n&&k.loc n&&chkE k (.call f es) (.Call (.Name x p) ls [] q)
  | _=>false
 | _=>false
mutual
noncomputable def chkS(k:Ck):S→Stmt→Bool
 | .ret e,.Return (some x) _=>chkE k e x
 | .expr e,.Expr x _=>Eu x&&chkE k e x
 | .set tg e,.Assign [t] x _=>O3 k tg t&&chkE k e x&&((Eu x&&(Zl2 t || Bw x)) || (Zt8 k t x&&decide (tg.length=1)) || Y46 k t x)
 | .put o i v,.Assign [.Subscript l r _] x _=>Gn r&&Eu x&&chkE k v x&&chkE k o l&&chkE k i r
 | .ite t a b,.If x ls rs _=>chkE k t x&&noIf t&&Y8 k a ls&&Y8 k b rs
 | .for_ tg it b,.For t x ls [] _=>k.calm&&k.loops&&Ny x&&O3 k tg t&&Zk4 k it x&&Y8 k b ls&&itTg it t
 | .forK tg e b,.For t x ls [] _=>k.calm&&k.loops&&Ny x&&O3 k tg t&&chkE k e x&&Y8 k b ls
 | .while_ t b,.While x ls [] _=>k.loops&&chkE k t x&&noIf t&&Y8 k b ls
 | .raise g es,.Raise (some (.Call (.Name x _) ls [] _)) none _=>k.calm&&k.raises.contains g&&k.GN[g]?==some x&&k.glob x&&decide (ls.length≤1)&&Xm k es ls
 | .tryN h f es g s,.Try [bs] [.ExceptHandler (some (.Name x _)) none (s0::ss) _] [] [] _=>k.calm&&k.tries&&k.GN[g]?==some x&&k.glob x&&chkB {k with tries:=false,raises:=[]} h f es bs&&
   Y8 {k with calm:=false,loops:=true,tries:=false,raises:=[]} s (s0::ss)
 | _,_=>false
noncomputable def Y8(k:Ck):Ss→List Stmt→Bool
 | .nil,[]=>true
 | .cons s r,x::xs=>chkS k s x&&Y8 k r xs
 | _,_=>false
end
section
variable{c:Cfg}{k:Ck}{Z:DX}{w0:Vw}{X:Cx}
theorem Gb{x:Expr}{t:Option Expr}{line:Nat}{env:Env}(h:Eu x=true):swapsWith x t line env=pure false:=by
 cases x<;>first | rfl | cases h
theorem Pb{f:DS}{σ:L2.St}{w:Vw}{σD:DEnv}{M:Z1}{H:Hp}{R:Ends}{RR:DEnds}(S:StOk w0 w σD M σ H)(h:f RR σD M)
  (h1:∀σ' w' σD' M',Ext w w'→RS w' M'→REnv w' σD' σ'→RR.nx σD' M'→R.nx σ' w'.H) (h2:Aft w RR.rt R.rt)
  (h3:∀σ' w' σD' M',Ext w w'→RS w' M'→REnv w' σD' σ'→RR.bk σD' M'→R.bk σ' w'.H)
  (h4:∀σ' w' σD' M',Ext w w'→RS w' M'→REnv w' σD' σ'→RR.ct σD' M'→R.ct σ' w'.H):tFS w0 f R σ H:=⟨w,σD,M,RR,S,h,h1,h2,h3,h4⟩
noncomputable def Zs8(X:Cx)(R:Ends):Ends:={nx:=fun σ H=>∃a o kvs,H a=some (.frz o (.dK kvs))∧(∀o u,X.H₀ a≠some (.frz o u))∧R.nx σ (upd H a (.dK kvs)),rt:=fun v H=>∃a o kvs,H a=some (.frz o (.dK kvs))∧(∀o u,X.H₀ a≠some (.frz o u))∧R.rt v (upd H a (.dK kvs))}
theorem Zs6{st:Stmt}{t:TS}(h:PS X st t):PS X st (fun R σ H=>t (Zs8 X R) σ H):=by
 intro pins s σ H D I q
 refine thn (h pins s σ H (Zs8 X D) I q) fun f s' hp=>?_
 cases f with
 | next=>
  obtain⟨σ',H',I',a,o,kvs,e,nf,q⟩:=hp
  exact⟨σ',_,Zl8 I' e nf,q⟩
 | brk=>obtain⟨σ',H',I',q⟩:=hp;exact q.elim
 | cont=>obtain⟨σ',H',I',q⟩:=hp;exact q.elim
 | ret u=>
  obtain⟨v,σ',H',I',r,a,o,kvs,e,nf,q⟩:=hp
  exact⟨v,σ',_,Zl8 I' e nf,r,q⟩
theorem REnv.ext0{w w':Vw}{σD:DEnv}{σ:L2.St}(h:REnv w σD σ)(x:Ext0 w w'):REnv w' σD σ:=
 ⟨h.1,fun i d e=>by obtain⟨v,q,r⟩:=h.2 i d e;exact⟨v,q,r.ext0 x⟩⟩
theorem Nx{w1 w':Vw}{M':Z1}{n:Nat}{o:Obj}{vs:List (Key×V)}{kvs:List (Key×D)}(hn:n<w1.n)(y1:w1.H (w1.μ n)=some (.dK vs))(x:Ext (w1.alloc (w1.μ n) (.frz o (.dK vs))) w')(r:RS w' M')(t:M'[n]?=some (.fdc kvs)):
  w'.H (w1.μ n)=some (.frz o (.dK vs))∧Ext w1 (w'.alloc (w1.μ n) (.dK vs))∧Ext0 w' (w'.alloc (w1.μ n) (.dK vs))∧RS (w'.alloc (w1.μ n) (.dK vs)) (M'.set n (.dct kvs)):=by
 have q:=x.imm (w1.μ n) _ Zv rfl
 have eμ:w'.μ n=w1.μ n:=x.μ n hn
 obtain⟨o',us,q1,q2⟩:=r.cell n _ t
 rw[eμ,q] at q1
 cases q1
 refine⟨q,Zd1 y1 rfl x,Nv q,?_⟩
 have:=r.thaw t (by rw[eμ];exact q) q2
 rw[eμ] at this
 exact this
theorem Z11{w1:Vw}{J:L2.It}{own:Own}{xs:List D}{tg:List Nat}{body:DS}{M1:Z1}{H1:Hp}{σD:DEnv}{σ:L2.St}{RR:DEnds}{R:Ends}(S:StOk w0 w1 σD M1 σ H1)(jk:JOk w1 J own xs)
  (h:forD own xs tg body xs RR σD M1)
  (h1:∀σ' w' σD' M',Ext w1 w'→RS w' M'→REnv w' σD' σ'→RR.nx σD' M'→R.nx σ' w'.H) (h2:Aft w1 RR.rt R.rt):
  ∃W:Nat→Nat→L2.St→Hp→Prop,(∃m,W 0 m σ H1)∧∀i m σ H,W i m σ H→
   (J.stop i H∧R.nx σ H)∨(J.go i H∧∃N:L2.St→Hp→Prop,(∀σ' H',N σ' H'→∃m',m'<m∧W (i+1) m' σ' H')∧∀x H',J.yld i H x H'→gF w0 tg x σ H' fun σ2 H2=>tFS w0 body {R with nx:=N,ct:=N,bk:=R.nx} σ2 H2):=by
 refine⟨fun i m σ H=>∃w σE M,StOk w0 w σE M σ H∧Ext w1 w∧i≤xs.length∧m=xs.length - i∧forD own xs tg body (xs.drop i) RR σE M,⟨xs.length,w1,σD,M1,S,Ext.refl _,Nat.zero_le _,rfl,h⟩,?_⟩
 rintro i m σc Hc ⟨w,σE,M,S1,x1,hi,rfl,hc⟩
 have stp:∀st:O8 own xs M,_:=fun st=>jk w M x1 S1.rs st i
 rw[S1.heap] at stp
 by_cases hil:i<xs.length
 ·rw[List.drop_eq_getElem_cons hil] at hc
  obtain⟨st,hc⟩:=hc
  obtain⟨j1,j2⟩:=(stp st).1 xs[i] (List.getElem?_eq_getElem hil)
  refine .inr ⟨j1,fun σ' H'=>∃w σE M,StOk w0 w σE M σ' H'∧Ext w1 w∧i+1≤xs.length∧forD own xs tg body (xs.drop (i+1)) RR σE M,?_,fun x H' hy=>?_⟩
  ·rintro σ' H' ⟨w2,σ2,M2,S2,x2,l2,f2⟩
   exact⟨xs.length - (i+1),by omega,w2,σ2,M2,S2,x2,l2,rfl,f2⟩
  ·obtain⟨w3,rfl,x3,R3,rd3⟩:=j2 x H' hy
   refine⟨w3,σE,M,xs[i],_,⟨rfl,S1.ext.trans x3,R3,S1.env.ext x3⟩,rd3,hc,fun σ2 σE2 env2 q2=>?_⟩
   have nxt:∀σ' w' σD' M',Ext w3 w'→RS w' M'→REnv w' σD' σ'→forD own xs tg body (xs.drop (i+1)) RR σD' M'→
     ∃w σE M,StOk w0 w σE M σ' w'.H∧Ext w1 w∧i+1≤xs.length∧forD own xs tg body (xs.drop (i+1)) RR σE M:=
    fun σ' w' σD' M' x' r' e' q'=>⟨w',σD',M',⟨rfl,(S1.ext.trans x3).trans x',r',e'⟩,(x1.trans x3).trans x',hil,q'⟩
   exact Pb ⟨rfl,S1.ext.trans x3,R3,env2⟩ q2 nxt (fun v w' d M' x' r' rd' q'=>h2 v w' d M' ((x1.trans x3).trans x') r' rd' q')
    (fun σ' w' σD' M' x' r' e' q'=>h1 σ' w' σD' M' ((x1.trans x3).trans x') r' e' q') nxt
 ·rw[List.drop_eq_nil_of_le (by omega)] at hc
  obtain⟨st,hq⟩:=hc
  refine .inl ⟨(stp st).2 (by omega),?_⟩
  have:=h1 σc w σE M x1 S1.rs S1.env hq
  rw[S1.heap] at this
  exact this
theorem Zy7{o i value:Expr}{td ty tv:TE}{pos pos':Pos}(hu:X.A.units+1<cLine)(ho:PE X o td)(hi:PE X i ty)(hv:PE X value tv)(hs:swapsWith value (some (.Subscript o i pos')) pos.line X.env=pure false):
  PS X (.Assign [.Subscript o i pos'] value pos) (fun R σ H=>tv σ H fun v H1=>td σ H1 fun x H2=>ty σ H2 fun y H3=>Y26 x y v H3 (fun H4=>R.nx σ H4)∨∃a H4,x= .ref a∧DPut H3 a y v H4∧R.nx σ H4):=by
 intro pins s σ H D I h
 refine wpAny_Assign_Subscript (thn (hv pins s σ H _ I h) fun r s1 ⟨v,H1,I1,rv,q1⟩=>thn (ho pins s1 σ H1 _ I1 q1) fun u s2 ⟨x,H2,I2,rx,q2⟩=>thn (hi pins s2 σ H2 _ I2 q2) fun iv s3 zz120=>?_) hs
 obtain⟨y,H3,I3,ry,q3⟩:=zz120
 rcases q3 with q3 | ⟨a,H4,ex,g,q3⟩
 ·exact thn (Zi9 pins s3 σ H3 x y v u iv r (fun H4=>D.nx σ H4) I3 rx ry rv q3) fun _ s4 zz121=>by obtain⟨H4,I4,q4⟩:=zz121;exact⟨σ,H4,I4,q4⟩
 ·subst ex
  obtain rfl:u=Value.ref a:=rx
  exact Z50 hu I3 g ry rv fun s4 I4=>⟨σ,H4,I4,q3⟩
theorem Z46{E:XK}{x:Str}{np cpos pos:Pos}{C f:Addr}{kk:Nat}{fd:FuncData}{ps:List Str}{sp:Sp}{dvs:List V}{ds:List Value}{e:Expr}{es:List Expr}{t:TA}(L:Leaves X E)(hc:X.calm=true)(Mk:ExcMk X.K C f)(F:FnOk X.prog X.w X.K X.mg X.base CX0 kk f fd ps sp)(hr:Room (kk+1) X.A)(hb:Zq X.K fd ps ds)(hd:Vals dvs ds)(hg:Gl X x)(hm:X.mg x=some (.ref C))
  (ha:PA X (e::es) t) (hdb:(x==("__debug__":Str))=false) (he:starEach (e::es) X.env=(false,eval e X.env)::starEach es X.env) (hpl:(backTo cpos (starEach es X.env)).any (·.1)=false):
  PS X (.Raise (some (.Call (.Name x np) (e::es) [] cpos)) none pos) (Zk6 C sp dvs E t):=by
 intro pins s σ H D I h
 rw[arm_exec_Raise]
 simp only[evalOpt,Option.map]
 refine wpAny_bind (wpAny_standAt (Pd (C:=C) (I.ok.hd hc) ?_))
 refine wpAny_bind (wpAny_mono (Q:=fun v s1=>∃(e:Addr) (nm q:Str) (N:Addr) (bs bm:List Value) (hdct:Bool) (sn:List Str) (sub:List Value) (ab:Bool) (col:Option Bool) (dd:Option Addr) (k0 k1 k2 k3 k5:Option Value) (dx:Option Addr),
   v= .ref e∧ExcCls s1.heap C nm q N bs bm hdct sn sub ab col dd k0 k1 k2 k3 k5 "ValueError" "ValueError.__new__"∧ExAt s1.heap e (.ref C) dx .none∧X.xe (.ref e) s1) ?_ (fun v s1 z=>wpAny_bind (wpAny_standAt (wpAny_pure z))) fun _ _ z=>z)
 refine wpAny_Call_Name_kw (V3 I hg hm ?_ hdb)
 refine PySem.W.callWith_K (h₀:=X.base) I.ok.mod.kin Mk.kp (thn (ha cpos pins s σ H _ I h) fun us s1 ⟨vs,H1,I1,r,q⟩=>⟨I1.kIn,?_⟩) he hpl
 exact Fc L Mk F hr hb hd I1 r q.1 q.2
end
def Z41(c:Cfg)(s:S):Prop:=∀(k:Ck) (Z:DX) (w0:Vw) (X:Cx) (st:Stmt),Good c k Z w0 X→chkS k s st=true→PS X st (tFS w0 (ts c Z s))
def Z63(c:Cfg)(s:Ss):Prop:=∀(k:Ck) (Z:DX) (w0:Vw) (X:Cx) (st:List Stmt),Good c k Z w0 X→Y8 k s st=true→PSs X st (tFS w0 (tss c Z s))
section
variable{c:Cfg}{k:Ck}{Z:DX}{w0:Vw}{X:Cx}
theorem Good.noxG(G:Good c k Z w0 X):Good c {k with tries:=false,raises:=[]} noX w0 X.nox where
 hK:=G.hK
 wK:=G.wK
 N:=G.N
 nd:=G.nd
 sc:=G.sc
 calm:=G.calm
 units:=G.units
 fns:=fun h f x sp h1 h2=>by
  obtain⟨kk,f,fd,ps,ds,dvs,dD,sp0,h⟩:=G.fns h f x sp h1 h2
  exact⟨kk,f,fd,ps,ds,dvs,dD,sp0,h⟩
 flen:=G.flen
 glb:=G.glb
 blt:=G.blt
 exc:=⟨E0,fun _ _ _ _ _ _ _ h=>by
  obtain⟨_,_,_,_,_,_,_,_,_,_,_,_,_,_,_,h⟩:=h
  exact h.elim,fun cls dd H' h=>by
  obtain⟨_,_,_,_,_,_,_,_,_,_,_,_,_,h⟩:=h
  exact h.elim⟩
 stk:=fun h=>by cases h
 rai:=fun _ h=>absurd h Bool.false_ne_true
 po:=fun _=>PassesOwn.never
 fnc:=G.fnc
 fno:=G.fno
theorem Good.heldG(G:Good c k Z w0 X)(e:Addr):Good c {k with calm:=false,loops:=true,tries:=false,raises:=[]} noX w0 (Held X e) where
 hK:=G.hK
 wK:=G.wK
 N:=G.N
 nd:=G.nd
 sc:=G.sc
 calm:=fun h=>by cases h
 units:=G.units
 fns:=fun h=>by cases h
 flen:=G.flen
 glb:=G.glb
 blt:=G.blt
 exc:=⟨E0,fun _ _ _ _ _ _ _ h=>by
  obtain⟨_,_,_,_,_,_,_,_,_,_,_,_,_,_,_,h⟩:=h
  exact h.elim,fun cls dd H' h=>by
  obtain⟨_,_,_,_,_,_,_,_,_,_,_,_,_,h⟩:=h
  exact h.elim⟩
 stk:=fun h=>by cases h
 rai:=fun _ h=>absurd h Bool.false_ne_true
 po:=fun _=>PassesOwn.never
 fnc:=G.fnc
 fno:=G.fno
def tFX(w0:Vw)(g:DX→DE):TEX:=fun σ H Q E=>∃w σD M QD Z,StOk w0 w σD M σ H∧g Z σD M QD∧Aft w QD Q∧∀cls dd H',xkOf w Z cls dd H'→E cls dd H'
theorem PEX.imp{e:Expr}{t t':TEX}(h:PEX X e t)(q:∀σ H Q E,t' σ H Q E→t σ H Q E):PEX X e t':=fun pins s σ H Q E I z=>h pins s σ H Q E I (q σ H Q E z)
theorem Z31{kk:Nat}{f:Addr}{fd:FuncData}{ps:List Str}{sp:Sp}{dvs:List V}{ds:List Value}{x:Str}{p pos:Pos}(F:FnOk X.prog X.w X.K X.mg X.base (CX1 X.prog X.w) kk f fd ps sp)(hr:Room kk X.A)(hg:Gl X x)(hm:X.mg x=some (.ref f))(hk:PySem.W.keepIn X.K (.ref f)=true)(hb:Zq X.K fd ps ds)(hd:Vals dvs ds)
  (hdb:(x==("__debug__":Str))=false):PEX X (.Call (.Name x p) [] [] pos) (Zm9 sp dvs tNil):=by
 intro pins s σ H Q E I h
 refine wpAny_Call_Name_kw (V3 I hg hm ?_ hdb)
 refine PySem.W.callWith_K0 I.kIn hk ?_
 have hl:([]++ds).length=ps.length:=by
  have r2:Vals ([]++dvs) ([]++ds):=hd
  rw[←r2.length];exact F.len _ _ _ _ h
 refine wpAny_call (codeAny_mono (F.run X.A X.stack s H ⟨[],[]⟩ ([]++ds) ([]++dvs) Q E hr I.env0 (hb s [] I.kIn hl) hd h) fun rr s' hq=>?_)
 cases rr with
 | error z=>exact Zz4 I hq
 | ok fl=>
  cases fl with
  | ret u=>exact I.after hq
  | next=>exact False.elim hq
  | brk=>exact False.elim hq
  | cont=>exact False.elim hq
theorem Vv{f:Nat}{es:Es}{x:Str}{np pos:Pos}{ls:List Expr}(G:Good c k Z w0 X)(h:chkE {k with tries:=false,raises:=[]} (.call f es) (.Call (.Name x np) ls [] pos)=true):PEX X (.Call (.Name x np) ls [] pos) (tFX w0 fun Z=>fun σD M QD=>tes c noX es σD M fun ds M1=>match c.Γ[f]? with
  | some sp=>sp ds M1 QD Z
  | none=>False):=by
 change (_&&_)=true at h
 simp only[Bool.and_eq_true,beq_iff_eq] at h
 obtain⟨⟨⟨hc,hf⟩,hg⟩,hs⟩:=h
 obtain⟨g1,g2,g3⟩:=G.gl hg
 cases hsp:c.Γ[f]? with
 | none=>
  have h1:=(List.getElem?_eq_some_iff.mp hf).1
  have h2:=List.getElem?_eq_none_iff.mp hsp
  rw[G.flen] at h1
  omega
 | some sp=>
  obtain⟨kk,fa,fd,pr,ds,dvs,dD,sp0,F,hr,hm,hk,hb,hd,hD,hsp0⟩:=G.fns hc f x sp hf hsp
  have key:∀σ H Q E,tFX w0 (fun Z=>fun σD M QD=>tes c noX es σD M fun ds M1=>sp ds M1 QD Z) σ H Q E→tFA w0 (tes c noX es) σ H fun vs H1=>spF X.K sp0 (vs++dvs) H1 Q E:=by
   rintro σ H Q E ⟨w,σD,M,QD,Z',S,g,a,xk⟩
   refine⟨w,σD,M,_,S,g,fun vs w' ds' M' x' r' rd' q'=>?_⟩
   have hKw:w'.K=X.K:=by rw[x'.K,S.K,G.eK]
   exact⟨w',ds'++dD,M',QD,Z',hKw,rfl,r',rd'.append (hD w' hKw),hsp0 _ _ _ _ q',a.ext x',fun cls dd H' hx=>xk cls dd H' (Nf x' hx)⟩
  cases ls with
  | nil=>
   refine PEX.imp (Z31 F hr g1 hm hk hb hd g2) fun σ H Q E h=>?_
   obtain⟨w,σD,M,QD,S,g,a⟩:=key σ H Q E h
   cases es with
   | nil=>
    have:=a [] w [] M (Ext.refl w) S.rs (RDs.nil w) g
    rw[S.heap] at this
    exact this
   | cons e r=>exact absurd hs Bool.false_ne_true
  | cons l ls=>
   cases es with
   | nil=>exact absurd hs Bool.false_ne_true
   | cons e r=>
    have ih:=(Xj c (.cons e r) _ _ w0 X.nox (l::ls) G.noxG hs).1
    change (_&&_)=true at hs
    simp only[Bool.and_eq_true] at hs
    exact PEX.imp (Zb7 F hr g1 hm hk hb hd ih g2 (Zu hs.1.2) (T9 (Xi r ls hs.2))) key
def Y89(K:PySem.W.Frag)(D:Addr)(tb:TSX)(ts:TS):TS:=fun R σ H=>tb R (fun cls dd H1=>∃C,cls= .ref C∧Catch K C D true∧ts R σ H1) σ H
theorem Zo3{X:Cx}{body suite:List Stmt}{b₀:Stmt}{x:Str}{np hpos pos:Pos}{D:Addr}{tb:TSX}{ts:TS}(hb:PSX X body tb)(hs:∀e,PSs (Held X e) (b₀::suite) ts)(hg:Gl X x)(hm:X.mg x=some (.ref D))(L:X.stack=X.env::X.outer)(hf:X.env.frame=some X.env.locals)
  (hdb:(x==("__debug__":Str))=false:=by decide):PS X (.Try body [.ExceptHandler (some (.Name x np)) none (b₀::suite) hpos] [] [] pos) (Y89 X.K D tb ts):=by
 intro pins s σ H R I h
 refine wpAny_Try_except (wpAny_mono (hb pins s σ H R _ I h) (fun f s1 q=>?_) fun y s1 q=>?_)
 ·cases f with
  | next=>exact wpAny_execs_nil q
  | ret v=>exact q
  | brk=>exact q
  | cont=>exact q
 obtain⟨e,T,cls,dd,H1,rfl,I1,ft,hTe,he,x1,t1,C,rfl,S,q⟩:=q
 refine Ji (outer:=X.outer) (base:=X.base) (L:=X.env.locals) (by rw[←L];exact I1.ok.frames) (by rw[←L];exact I1.stack) hf x1 t1 hTe fun h2 T1 z1 z2 z3 z4 z5=>?_
 have I2:Inv X pins σ H1 {s1 with heap:=h2}:=Zb3 I1 ft he z3 (by rw[L];exact z5)
 have f2:FpOk X pins H1 T1:=I1.fpOk z1 (I1.hok.fresh z1)
 refine Tt (s:={s1 with heap:=h2}) z3 z4 z2 fun h3 x3 t3 k3 _=>?_
 have I3:Inv X pins σ H1 {s1 with heap:=h3}:=Ep (s:={s1 with heap:=h2}) I2 f2 k3
 have J3:=Zw8 I3 e
 refine wpAny_handleBy_cons (codeAny_handlers_test ?_) (by intro z;cases z)
 refine V3 (X:=Held X e) J3 hg hm ?_ hdb
 obtain⟨oe,vs,y1,⟨y2,y3⟩,y4,y5⟩:=id x3
 refine Gj (s:={s1 with heap:=h3}) J3.kIn S y1 y2 ?_
 refine PySem.codeAny_handlers_suite ?_
 refine Tt (s:={s1 with heap:=h3}) x3 t3 z2 fun h4 x4 t4 k4 _=>?_
 have J4:Inv (Held X e) pins σ H1 {s1 with heap:=h4}:=Ep (s:={s1 with heap:=h3}) J3 f2 k4
 refine wpAny_mono (hs e pins _ _ H1 _ J4 q) (fun f s6 q6=>?_) fun _ _ z=>z.elim
 cases f with
 | next=>
  obtain⟨σ6,H6,J6,q6⟩:=q6
  exact⟨_,_,Rb I.ok J6,q6⟩
 | brk=>
  obtain⟨σ6,H6,J6,q6⟩:=q6
  exact⟨_,_,Rb I.ok J6,q6⟩
 | cont=>
  obtain⟨σ6,H6,J6,q6⟩:=q6
  exact⟨_,_,Rb I.ok J6,q6⟩
 | ret u=>
  obtain⟨v,σ6,H6,J6,rv,q6⟩:=q6
  exact⟨v,_,_,Rb I.ok J6,rv,q6⟩
theorem Cs{h:Tk}{f:Nat}{es:Es}{g:Nat}{sx:Ss}{bs s0:Stmt}{ss:List Stmt}{x:Str}{np hp pos:Pos}(G:Good c k Z w0 X)(hc:k.calm=true)(ht:k.tries=true)(hg:k.GN[g]?=some x)(hgl:k.glob x=true)
  (hb:chkB {k with tries:=false,raises:=[]} h f es bs=true) (hs:Y8 {k with calm:=false,loops:=true,tries:=false,raises:=[]} sx (s0::ss)=true) (ih:Z63 c sx):
  PS X (.Try [bs] [.ExceptHandler (some (.Name x np)) none (s0::ss) hp] [] [] pos) (tFS w0 (ts c Z (.tryN h f es g sx))):=by
 obtain⟨g1,g2,g3⟩:=G.gl hgl
 obtain⟨st1,st2⟩:=G.stk ht
 have never:(∀D,c.G[g]?≠some (.cls D))→PS X (.Try [bs] [.ExceptHandler (some (.Name x np)) none (s0::ss) hp] [] [] pos) (tFS w0 (ts c Z (.tryN h f es g sx))):=fun no=>
  PS.imp Fm fun R σ H ⟨w,σD,M,RR,S,q,_⟩=>by
   unfold ts at q
   split at q
   ·rename_i D e;exact(no D e).elim
   ·exact q
 by_cases hD:∃D,c.G[g]?=some (.cls D)
 ·obtain⟨Dc,hD⟩:=hD
  obtain⟨v,u,q1,q2,q3⟩:=G.glb g x _ hg hD
  have hv:v= .ref Dc:=Qv.mp (q3 ⟨X.K,fun _=>none,fun _=>0,0⟩ rfl)
  subst hv
  cases (show u=Value.ref Dc from q2)
  have suite:∀e,PSs (Held X e) (s0::ss) (tFS w0 (tss c noX sx)):=fun e=>ih _ _ w0 (Held X e) (s0::ss) (G.heldG e) hs
  have key:∀(R:Ends) (σ:L2.St) (H:Hp) (Q:VK),tFS w0 (ts c Z (.tryN h f es g sx)) R σ H→(∀(RR:DEnds) (σD:DEnv) (w:Vw),REnv w σD σ→(∀σ' w' σD' M',Ext w w'→RS w' M'→REnv w' σD' σ'→RR.nx σD' M'→R.nx σ' w'.H)→Aft w RR.rt R.rt→Aft w (tkD h RR σD) Q)→
    tFX w0 (fun Z=>fun σD M QD=>tes c noX es σD M fun ds M1=>match c.Γ[f]? with
     | some sp=>sp ds M1 QD Z
     | none=>False) σ H Q (fun cls dd H1=>∃C,cls= .ref C∧Catch X.K C Dc true∧tFS w0 (tss c noX sx) R σ H1):=by
   rintro R σ H Q ⟨w,σD,M,RR,S,q,h1,h2,h3,h4⟩ hQ
   unfold ts at q
   rw[hD] at q
   refine⟨w,σD,M,tkD h RR σD,_,S,q,hQ RR σD w S.env h1 h2,?_⟩
   rintro cls dd H' ⟨C,dx,r,w',row,M',rfl,rfl,rfl,x',r',z1,z2,z3,z4⟩
   refine⟨C,rfl,by rw[G.hK];exact z3,?_⟩
   refine Pb (RR:=RR) ⟨rfl,S.ext.trans x',r',S.env.ext x'⟩ z4 ?_ ?_ ?_ ?_
   ·exact fun σ' w2 σD' M2 x2 r2 e2 q2=>h1 _ w2 _ M2 (x'.trans x2) r2 e2 q2
   ·exact h2.ext x'
   ·exact fun σ' w2 σD' M2 x2 r2 e2 q2=>h3 _ w2 _ M2 (x'.trans x2) r2 e2 q2
   ·exact fun σ' w2 σD' M2 x2 r2 e2 q2=>h4 _ w2 _ M2 (x'.trans x2) r2 e2 q2
  have fin:∀{tb:TSX},PSX X [bs] tb→(∀R σ H,tFS w0 (ts c Z (.tryN h f es g sx)) R σ H→tb R (fun cls dd H1=>∃C,cls= .ref C∧Catch X.K C Dc true∧tFS w0 (tss c noX sx) R σ H1) σ H)→
    PS X (.Try [bs] [.ExceptHandler (some (.Name x np)) none (s0::ss) hp] [] [] pos) (tFS w0 (ts c Z (.tryN h f es g sx))):=fun{tb} hb' hk=>
   PS.imp (Zo3 hb' suite g1 q1 st1 st2 g2) hk
  unfold chkB at hb
  split at hb
  ·split at hb
   ·refine fin (Zi4 (Vv G hb) rfl) fun R σ H q=>key R σ H _ q fun RR σD w env h1 h2=>fun v w' d M' x' r' rd' q'=>h1 σ w' σD M' x' r' (env.ext x') q'
   ·cases hb
  ·split at hb
   ·refine fin (Zs7 (Vv G hb)) fun R σ H q=>key R σ H _ q fun RR σD w env h1 h2=>h2
   ·cases hb
  ·split at hb
   ·rename_i j
    simp only[Bool.and_eq_true,beq_iff_eq] at hb
    obtain⟨⟨hb1,hb2⟩,hb3⟩:=hb
    have hj:=(congrArg (fun N:List Str=>N[j]?) G.N).trans hb1
    unfold Ck.loc at hb2
    have hjl:=eq_of_beq hb2
    dsimp only at hjl
    rw[←G.sc] at hjl
    refine fin (Zq3 G.nd hj (.inl hjl) (Vv G hb3) rfl (.inr hjl)) fun R σ H q=>key R σ H _ q fun RR σD w env h1 h2=>fun v w' d M' x' r' rd' q'=>h1 _ w' _ M' x' r' ((env.ext x').set j rd') q'
   ·cases hb
  ·cases hb
 ·exact never fun D e=>hD ⟨D,e⟩
end
section
variable{c:Cfg}{k:Ck}{Z:DX}{w0:Vw}{X:Cx}
theorem B8{H:Hp}{e dx:Addr}{a b c' d':HO}(h:(upd H e a) dx=none):upd (upd (upd (upd H e a) dx b) e c') e d'=upd (upd H dx b) e d'∧dx≠e:=by
 have hne:dx≠e:=by
  rintro rfl
  rw[Zv] at h
  cases h
 refine⟨?_,hne⟩
 funext p
 unfold upd
 by_cases h1:p=e
 ·simp[h1]
 ·by_cases h2:p=dx
  ·simp[h2,hne]
  ·simp[h1,h2]
theorem Gu{g:Nat}{es:Es}{x:Str}{np cpos pos:Pos}{ls:List Expr}(G:Good c k Z w0 X)(hc:k.calm=true)(hr:k.raises.contains g=true)(hg:k.GN[g]?=some x)(hgl:k.glob x=true)(hn:ls.length≤1)(hs:Xm k es ls=true)(ih:PA X ls (tFA w0 (tes c Z es))):
  PS X (.Raise (some (.Call (.Name x np) ls [] cpos)) none pos) (tFS w0 (ts c Z (.raise g es))):=by
 obtain⟨g1,g2,g3⟩:=G.gl hgl
 by_cases hD:∃C,c.G[g]?=some (.cls C)
 ·obtain⟨C,hD⟩:=hD
  obtain⟨v,u,q1,q2,q3⟩:=G.glb g x _ hg hD
  have hv:v= .ref C:=Qv.mp (q3 ⟨X.K,fun _=>none,fun _=>0,0⟩ rfl)
  subst hv
  cases (show u=Value.ref C from q2)
  obtain⟨⟨E,L,xk⟩,rs⟩:=G.rai g hr
  obtain⟨kk,f,fd,Mk,F,room,b1,b0,S0⟩:=rs C hD
  have key:∀(R:Ends) (σ:L2.St) (H:Hp) (dvs:List V) (row:List D→D),(∀(w:Vw) ds vs r,excD ds=some r→RDs w ds vs→ds.length=ls.length→∃y,vs++dvs=[y]∧RD w r y)→(∀σD M QD,tes c Z es σD M QD→tes c Z es σD M fun ds M1=>ds.length=ls.length∧QD ds M1)→tFS w0 (ts c Z (.raise g es)) R σ H→
    tFA w0 (tes c Z es) σ H fun vs H1=>vs.length≤8∧∀e,H1 e=none→Pp X.K (.ref e::(vs++dvs)) (upd H1 e (XN e (.ref C) none)) (fun v H2=>v= .non∧∃dd,H2 e=some (XN e (.ref C) dd)∧E (.ref C) dd (upd H2 e (XO e (.ref C) dd))) E0:=by
   rintro R σ H dvs row hrow hlen ⟨w,σD,M,RR,S,q,_⟩
   unfold ts at q
   rw[hD] at q
   refine⟨w,σD,M,_,S,hlen _ _ _ q,fun vs w' ds M' x' r' rd' q'=>?_⟩
   obtain⟨hl,q'⟩:=q'
   split at q'
   ·rename_i r er
    obtain⟨y,ey,ry⟩:=hrow w' ds vs r er rd' hl
    have hvl:vs.length≤8:=by
     have:=congrArg List.length ey
     simp at this
     omega
    refine⟨hvl,fun e he=>⟨e,C,y,by rw[ey],Zv,S0,fun dx hdx=>⟨rfl,some dx,Zv,?_⟩⟩⟩
    obtain⟨eH,hne⟩:=B8 (b:= .xd [("row",y)]) (c':=XN e (.ref C) (some dx)) (d':=XO e (.ref C) (some dx)) hdx
    rw[eH]
    have hdx':w'.H dx=none:=by rw[Z9 hne] at hdx;exact hdx
    have he':(w'.alloc dx (.xd [("row",y)])).H e=none:=by
     show upd w'.H dx _ e=none
     rw[Z9 (Ne.symm hne)];exact he
    have y1:=V5 (o:= .xd [("row",y)]) hdx'
    have y2:=V5 (o:=XO e (.ref C) (some dx)) he'
    have y12:=y1.trans y2
    refine xk _ _ _ ⟨C,dx,y,(w'.alloc dx (.xd [("row",y)])).alloc e (XO e (.ref C) (some dx)),r,M',rfl,rfl,rfl,(S.ext.trans x').trans y12,(r'.alloc hdx').alloc he',?_,ry.ext y12,q'⟩
    rw[Z9 hne,Zv]
   ·exact q'.elim
  cases ls with
  | nil=>
   cases es with
   | cons e r=>exact absurd hs Bool.false_ne_true
   | nil=>
    refine PS.imp (Z15 L (G.calm hc) Mk F room b1 (dvs:=[.non]) (.cons rfl .nil) g1 q1 g2) fun R σ H h=>?_
    obtain⟨w,σD,M,QD,S,q,a⟩:=key R σ H [.non] (fun _=> .non) (fun w ds vs r er rd hl=>by
     cases List.length_eq_zero_iff.mp hl
     cases rds0 rd
     cases er
     exact⟨.non,rfl,Yi.mpr rfl⟩) (fun σD M QD h=>⟨rfl,h⟩) h
    have:=a [] w [] M (Ext.refl w) S.rs (RDs.nil w) q
    rw[S.heap] at this
    exact this
  | cons l ls=>
   cases ls with
   | cons _ _=>simp at hn
   | nil=>
    cases es with
    | nil=>exact absurd hs Bool.false_ne_true
    | cons ee r=>
     cases r with
     | cons _ _=>
      change (_&&_)=true at hs
      simp only[Bool.and_eq_true] at hs
      exact absurd hs.2 Bool.false_ne_true
     | nil=>
      change (_&&_)=true at hs
      simp only[Bool.and_eq_true] at hs
      refine PS.imp (Z46 L (G.calm hc) Mk F room b0 (dvs:=[]) .nil g1 q1 ih g2 (Zu hs.1.2) rfl) fun R σ H h=>?_
      exact key R σ H [] (fun _=> .non) (fun w ds vs r er rd hl=>by
       match ds,hl with
       | [d],_=>
        obtain⟨y,rfl,ry⟩:=rds1 rd
        cases er
        exact⟨y,rfl,ry⟩) (fun σD M QD h=>by
       have e:(fun(d:D) (M1:Z1)=>QD [d] M1)=fun d M1=>[d].length=[l].length∧QD [d] M1:=by
        funext d M1
        exact propext ⟨fun z=>⟨rfl,z⟩,fun z=>z.2⟩
       have h':te c Z ee σD M fun(d:D) (M1:Z1)=>QD [d] M1:=h
       rw[e] at h'
       exact h') h
 ·refine PS.imp Fm fun R σ H zz124=>?_
  obtain⟨w,σD,M,RR,S,q,_⟩:=zz124
  unfold ts at q
  split at q
  ·rename_i C e;exact(hD ⟨C,e⟩).elim
  ·exact q
end
theorem C7{k:Ck}{t x:Expr}(h:Zt8 k t x=true):∃n np el gens scope p,t= .Name n np∧x= .ListComp el gens scope p:=by
 cases t with
 | Name n np=>
  cases x with
  | ListComp el gens scope p=>exact⟨_,_,_,_,_,_,rfl,rfl⟩
  | _=>exact absurd h Bool.false_ne_true
 | _=>exact absurd h Bool.false_ne_true
theorem Cf{k:Ck}{t x:Expr}(h:Y46 k t x=true):∃n np el gens scope p,t= .Name n np∧x= .ListComp el gens scope p∧k.sc.names.lookup n=some .cell:=by
 cases t with
 | Name n np=>
  cases x with
  | ListComp el gens scope p=>exact⟨_,_,_,_,_,_,rfl,rfl,eq_of_beq h⟩
  | _=>exact absurd h Bool.false_ne_true
 | _=>exact absurd h Bool.false_ne_true
theorem B5{k:Ck}{e:E}{el:Expr}{gens:List Comprehension}{scope:Scope}{p:Pos}(h:chkE k e (.ListComp el gens scope p)=true):
  ∃N' js tg it cd e' t iter ifs,e= .comp N' js tg it cd e'∧gens=[⟨t,iter,ifs,0⟩]:=by
 cases e with
 | comp N' js tg it cd e'=>
  cases gens with
  | nil=>exact absurd h Bool.false_ne_true
  | cons g r=>
   cases g with
   | mk t iter ifs as=>
    cases as with
    | ofNat n=>
     cases n with
     | zero=>
      cases r with
      | nil=>exact⟨_,_,_,_,_,_,_,_,_,rfl,rfl⟩
      | cons _ _=>exact absurd h Bool.false_ne_true
     | succ n=>exact absurd h Bool.false_ne_true
    | negSucc n=>exact absurd h Bool.false_ne_true
 | bop b es=>cases b<;>exact absurd h Bool.false_ne_true
 | _=>exact absurd h Bool.false_ne_true
theorem Z16(c:Cfg)(tg:List Nat)(e:E):Z41 c (.set tg e):=by
  intro k Z w0 X st G h
  cases st with
  | Assign ts' x pos=>
   match ts',h with
   | [t],h=>
    change (_&&_)=true at h
    simp only[Bool.and_eq_true,Bool.or_eq_true,decide_eq_true_eq] at h
    obtain⟨⟨ht,he⟩,h⟩:=h
    rcases h with(⟨hc,hs⟩ | ⟨hs,hl⟩) | hs
    rotate_left 2
    ·obtain⟨n,np,el,gens,scope,p,rfl,rfl,hcell⟩:=Cf hs
     have h1:swapsWithSole [.Name n np] (.ListComp el gens scope p) pos.line X.env=pure false:=by
      have hk:X.env.kindOf n=some .cell:=by
       unfold Env.kindOf
       rw[G.sc];exact hcell
      have hk':(X.env.kindOf n==some NameKind.local)=false:=by rw[hk];rfl
      unfold swapsWithSole swapsWith
      simp only[hk',Bool.and_false,Bool.false_and]
     refine PS.imp (Zl4 (Zs c e k Z w0 X _ G he).1 (G.tgt tg _ ht) h1 rfl rfl) fun R σ H zz125=>?_
     obtain⟨w,σD,M,RR,S,q,q1,q2,q3,q4⟩:=zz125
     refine Yg S q fun v w' d M' x' r' rd' q'=>?_
     exact⟨w',σD,M',d,_,S.next x' r',rd',q',fun σ' σD' e' z=>q1 σ' w' σD' M' x' r' e' z⟩
    ·have h1:swapsWithSole [t] x pos.line X.env=pure false:=Gb hc
     have h2:swappedStores [t] x X.env=pure none:=by
      cases t with
      | Name n p=>cases x<;>rfl
      | Tuple es kk p=>
       have:Bw x=true:=hs.resolve_left (by simp[Zl2])
       cases x<;>first | rfl | cases this
      | _=>exact absurd ht Bool.false_ne_true
     have h3:(assignEach [t] X.env).map (·.2)=[assign t X.env]:=by
      cases t with
      | Name n p=>rfl
      | Tuple es kk p=>rfl
      | _=>exact absurd ht Bool.false_ne_true
     refine PS.imp (Zl4 (Zs c e k Z w0 X x G he).1 (G.tgt tg t ht) h1 h2 h3) fun R σ H zz126=>?_
     obtain⟨w,σD,M,RR,S,q,q1,q2,q3,q4⟩:=zz126
     refine Yg S q fun v w' d M' x' r' rd' q'=>?_
     exact⟨w',σD,M',d,_,S.next x' r',rd',q',fun σ' σD' e' z=>q1 σ' w' σD' M' x' r' e' z⟩
    ·match tg,hl,ht with
     | [i],_,ht=>
      obtain⟨n,np,el,gens,scope,p,rfl,rfl⟩:=C7 hs
      obtain⟨N',js,tg,it,cd,e,t2,iter,ifs,rfl,rfl⟩:=B5 he
      change (_&&_)=true at he
      simp only[Bool.and_eq_true,decide_eq_true_eq] at he
      obtain⟨⟨⟨⟨⟨⟨⟨⟨h1,h2⟩,h3⟩,h4⟩,h5⟩,h6⟩,h7⟩,h8⟩,h9⟩:=he
      change (_&&_)=true at ht
      simp only[Bool.and_eq_true,beq_iff_eq] at ht
      simp only[Zt8,Bool.and_eq_true,beq_iff_eq,Bool.not_eq_true'] at hs
      obtain⟨⟨⟨s1,s2⟩,s3⟩,s4⟩:=hs
      have hl':X.env.scope.names.lookup n=some .local:=by
       unfold Ck.loc at s2
       rw[G.sc];exact eq_of_beq s2
      have hsw:swapsWith (.ListComp el [⟨t2,iter,ifs,0⟩] scope p) (some (.Name n np)) pos.line X.env=pure true:=by
       unfold swapsWith
       have hb:(X.env.blockKind==ScopeKind.function)=true:=by
        unfold Env.blockKind
        rw[G.sc,s1];rfl
       have hk:(X.env.kindOf n==some NameKind.local)=true:=by
        unfold Env.kindOf
        rw[hl'];rfl
       have hp:(np.line==(Expr.ListComp el [⟨t2,iter,ifs,0⟩] scope p).pos.line)=true:=by
        show(np.line==p.line)=true
        rw[s3];simp
       simp only[hb,hk,hp,s4,Bool.not_false,Bool.and_self]
      refine PS.imp ((Pt G h1 h2 h3 h5 (Z32 c it k Z w0 X t2 iter G h4 h9) h6 h7 h8 (Zs c e) (E8 c cd)).2 i n np pos (by rw[G.N];exact ht.1) hl' hsw) fun R σ H zz127=>?_
      obtain⟨w,σD,M,RR,S,q,q1,q2,q3,q4⟩:=zz127
      have q:te c Z (.comp N' js tg it cd e) σD M fun d M1=>RR.nx (σD.set i (some d)) M1:=q
      refine Yg S q fun v w' d M' x' r' rd' q'=>?_
      exact q1 _ w' _ M' x' r' ((S.env.ext x').set i rd') q'
     | [],hl,_=>simp at hl
     | _::_::_,hl,_=>simp at hl
   | [],h=>exact absurd h Bool.false_ne_true
   | _::_::_,h=>exact absurd h Bool.false_ne_true
  | _=>exact absurd h Bool.false_ne_true
theorem Za6(c:Cfg)(o i v:E):Z41 c (.put o i v):=by
  intro k Z w0 X st G h
  cases st with
  | Assign ts' x pos=>
   match ts',h with
   | [t],h=>
    cases t with
    | Subscript l r p=>
     change (_&&_)=true at h
     simp only[Bool.and_eq_true] at h
     obtain⟨⟨⟨⟨h1,h2⟩,h3⟩,h4⟩,h5⟩:=h
     refine PS.imp (Zy7 (by have:=G.units;omega) (Zs c o k Z w0 X l G h4).1 (Zs c i k Z w0 X r G h5).1 (Zs c v k Z w0 X x G h3).1 (Gb h2)) fun R σ H zz128=>?_
     obtain⟨w,σD,M,RR,S,q,q1,q2,q3,q4⟩:=zz128
     refine Yg S q fun vv w1 dv M1 x1 r1 rd1 z1=>?_
     refine Yg (S.next x1 r1) z1 fun vo w2 dob M2 x2 r2 rd2 z2=>?_
     refine Yg ((S.next x1 r1).next x2 r2) z2 fun vi w3 di M3 x3 r3 rd3 z3=>?_
     split at z3
     ·obtain⟨hn,rfl⟩:=Zy.mp (rd2.ext x3)
      rcases z3 with⟨xs,kk,j,rfl,y1,y2,y3⟩ | ⟨kvs,kk,y1,y2,y3,y4⟩
      ·cases Zc.mp rd3
       obtain⟨hn,vs,u1,u2⟩:=r3.list y1
       obtain⟨t1,t2⟩:=Vk r3 hn u1 (u2.set (rd1.ext (x2.trans x3)) j)
       exact .inl ⟨_,vs,kk,j,rfl,rfl,u1,by rw[u2.length];exact y2,q1 σ _ σD _ (((x1.trans x2).trans x3).trans t1) t2 (S.env.ext (((x1.trans x2).trans x3).trans t1)) y3⟩
      ·obtain⟨hn,vs,u1,u2⟩:=r3.dict y1
       cases Q8 y2 rd3
       obtain⟨t1,t2⟩:=Px r3 hn u1 (u2.put (k:=kk) (rd1.ext (x2.trans x3)))
       exact .inr ⟨_,_,rfl,DPut.k (k:=kk) u1 (by rw[u2.length];exact y3),q1 σ _ σD _ (((x1.trans x2).trans x3).trans t1) t2 (S.env.ext (((x1.trans x2).trans x3).trans t1)) y4⟩
     ·exact z3.elim
    | _=>exact absurd h Bool.false_ne_true
   | [],h=>exact absurd h Bool.false_ne_true
   | a::b::r,h=>cases a<;>exact absurd h Bool.false_ne_true
  | _=>exact absurd h Bool.false_ne_true
theorem Cp{k:Ck}{hh:Tk}{f:Nat}{es:Es}{g:Nat}{s:Ss}{st:Stmt}(h:chkS k (.tryN hh f es g s) st=true):∃bs x np s0 ss hp pos,st= .Try [bs] [.ExceptHandler (some (.Name x np)) none (s0::ss) hp] [] [] pos∧
  (k.calm&&k.tries&&k.GN[g]?==some x&&k.glob x&&chkB {k with tries:=false,raises:=[]} hh f es bs&&
   Y8 {k with calm:=false,loops:=true,tries:=false,raises:=[]} s (s0::ss))=true:=by
 cases st with
 | Try b hs o f pos=>
  cases b with
  | nil=>exact absurd h Bool.false_ne_true
  | cons b0 b1=>
  cases b1 with
  | cons _ _=>exact absurd h Bool.false_ne_true
  | nil=>
  cases hs with
  | nil=>exact absurd h Bool.false_ne_true
  | cons h0 h1=>
  cases h0 with
  | ExceptHandler ty nm bd hp=>
  cases ty with
  | none=>exact absurd h Bool.false_ne_true
  | some ty=>
  cases ty with
  | Name x np=>
   cases nm with
   | some n=>exact absurd h Bool.false_ne_true
   | none=>
   cases bd with
   | nil=>exact absurd h Bool.false_ne_true
   | cons s0 ss=>
   cases h1 with
   | cons _ _=>exact absurd h Bool.false_ne_true
   | nil=>
   cases o with
   | cons _ _=>exact absurd h Bool.false_ne_true
   | nil=>
   cases f with
   | cons _ _=>exact absurd h Bool.false_ne_true
   | nil=>exact⟨_,_,_,_,_,_,_,rfl,h⟩
  | _=>exact absurd h Bool.false_ne_true
 | _=>exact absurd h Bool.false_ne_true
theorem Gd{k:Ck}{g:Nat}{es:Es}{st:Stmt}(h:chkS k (.raise g es) st=true):∃x np ls cp pos,st= .Raise (some (.Call (.Name x np) ls [] cp)) none pos∧
  (k.calm&&k.raises.contains g&&k.GN[g]?==some x&&k.glob x&&decide (ls.length≤1)&&Xm k es ls)=true:=by
 cases st with
 | Raise ex ca pos=>
  cases ex with
  | none=>exact absurd h Bool.false_ne_true
  | some ex=>
  cases ex with
  | Call fn ls ks cp=>
   cases fn with
   | Name x np=>
    cases ks with
    | cons _ _=>exact absurd h Bool.false_ne_true
    | nil=>
    cases ca with
    | some _=>exact absurd h Bool.false_ne_true
    | none=>exact⟨_,_,_,_,_,rfl,h⟩
   | _=>exact absurd h Bool.false_ne_true
  | _=>exact absurd h Bool.false_ne_true
 | _=>exact absurd h Bool.false_ne_true
mutual
theorem Y32(c:Cfg):∀s:S,Z41 c s
 | .ret e,k,Z,w0,X,st,G,h=>by
  cases st with
  | Return v pos=>
   cases v with
   | some x=>exact PS.imp (Zy5 (Zs c e k Z w0 X x G h).1) fun R σ H zz129=>by obtain⟨w,σD,M,RR,S,q,h1,h2,h3,h4⟩:=zz129;exact Yg S q h2
   | none=>exact absurd h Bool.false_ne_true
  | _=>exact absurd h Bool.false_ne_true
 | .expr e,k,Z,w0,X,st,G,h=>by
  cases st with
  | Expr x pos=>
   change (_&&_)=true at h
   simp only[Bool.and_eq_true] at h
   exact PS.imp (Zn5 (Zs c e k Z w0 X x G h.2).1 (Gb h.1)) fun R σ H zz130=>by obtain⟨w,σD,M,RR,S,q,h1,h2,h3,h4⟩:=zz130;exact Yg S q fun v w' d M' x' r' rd' q'=>h1 σ w' σD M' x' r' (S.env.ext x') q'
  | _=>exact absurd h Bool.false_ne_true
 | .set tg e,k,Z,w0,X,st,G,h=>Z16 c tg e k Z w0 X st G h
 | .put o i v,k,Z,w0,X,st,G,h=>Za6 c o i v k Z w0 X st G h
 | .ite t a b,k,Z,w0,X,st,G,h=>by
  cases st with
  | If x ls rs pos=>
   change (_&&_)=true at h
   simp only[Bool.and_eq_true] at h
   obtain⟨⟨⟨h1,h2⟩,h3⟩,h4⟩:=h
   refine PS.imp (Y79 ((Zs c t k Z w0 X x G h1).2 h2) (Wh c a k Z w0 X ls G h3) (Wh c b k Z w0 X rs G h4)) fun R σ H zz131=>?_
   obtain⟨w,σD,M,RR,S,q,q1,q2,q3,q4⟩:=zz131
   refine⟨w,σD,M,_,S,q,fun z w1 M1 x1 r1 y1=>?_⟩
   have fin:∀{f:DS},f RR σD M1→tFS w0 f R σ w1.H:=fun hf=>Pb (S.next x1 r1) hf (fun σ' w' σD' M' x' r' e' z=>q1 σ' w' σD' M' (x1.trans x') r' e' z) (q2.ext x1)
    (fun σ' w' σD' M' x' r' e' z=>q3 σ' w' σD' M' (x1.trans x') r' e' z) (fun σ' w' σD' M' x' r' e' z=>q4 σ' w' σD' M' (x1.trans x') r' e' z)
   cases z with
   | true=>
    rw[if_pos rfl] at y1
    show if (true:Bool)=true then _ else _
    rw[if_pos rfl];exact fin y1
   | false=>
    rw[if_neg Bool.false_ne_true] at y1
    show if (false:Bool)=true then _ else _
    rw[if_neg Bool.false_ne_true];exact fin y1
  | _=>exact absurd h Bool.false_ne_true
 | .for_ tg it b,k,Z,w0,X,st,G,h=>by
  cases st with
  | For t x ls els pos=>
   cases els with
   | nil=>
    change (_&&_)=true at h
    simp only[Bool.and_eq_true] at h
    obtain⟨⟨⟨⟨⟨⟨h1,h2⟩,h3⟩,h4⟩,h5⟩,h6⟩,h7⟩:=h
    have hf:∀v,foldedSetIterable x X.env v=pure v:=by
     intro v
     cases x<;>first | rfl | cases h3
    refine PS.imp (Zk9 (G.po h2) (G.calm h1) (Z32 c it k Z w0 X t x G h5 h7) (G.tgt tg t h4) (Wh c b k Z w0 X ls G h6) hf) fun R σ H zz132=>?_
    obtain⟨w,σD,M,RR,S,q,q1,q2,q3,q4⟩:=zz132
    refine⟨w,σD,M,_,S,q,fun J w1 own xs M1 x1 r1 jk z=>?_⟩
    exact Z11 (S.next x1 r1) jk z (fun σ' w' σD' M' x' r' e' z=>q1 σ' w' σD' M' (x1.trans x') r' e' z) (q2.ext x1)
   | cons _ _=>exact absurd h Bool.false_ne_true
  | _=>exact absurd h Bool.false_ne_true
 | .forK tg e b,k,Z,w0,X,st,G,h=>by
  cases st with
  | For t x ls els pos=>
   cases els with
   | nil=>
    change (_&&_)=true at h
    simp only[Bool.and_eq_true] at h
    obtain⟨⟨⟨⟨⟨h1,h2⟩,h3⟩,h4⟩,h5⟩,h6⟩:=h
    have hf:∀v,foldedSetIterable x X.env v=pure v:=by
     intro v
     cases x<;>first | rfl | cases h3
    refine PS.imp (Zs6 (Zk9 (G.po h2) (G.calm h1) (Zs3 (Zs c e k Z w0 X x G h5).1) (G.tgt tg t h4) (Wh c b k Z w0 X ls G h6) hf)) fun R σ H zz133=>?_
    obtain⟨w,σD,M,RR,S,q,q1,q2,q3,q4⟩:=zz133
    refine Yg S q fun v w1 d M1 x1 r1 rd1 z=>?_
    split at z
    ·obtain⟨hn,rfl⟩:=Zy.mp rd1
     obtain⟨kvs,z1,z2⟩:=z
     obtain⟨hM,vs,y1,y2⟩:=r1.dict z1
     refine⟨_,vs,rfl,y1,fun o nf=>?_⟩
     rename_i _ n
     have x2:Ext w1 (w1.alloc (w1.μ n) (.frz o (.dK vs))):=Wa y1 rfl
     have r2:RS (w1.alloc (w1.μ n) (.frz o (.dK vs))) (M1.set n (.fdc kvs)):=r1.write hM rfl rfl y1 rfl ⟨o,vs,Zv,y2.ext x2⟩
     refine Z11 (R:=Zs8 X R) (S.next (x1.trans x2) r2) (Zh2 (w1:=w1.alloc (w1.μ n) (.frz o (.dK vs))) (n:=n) hn Zv) z2 (fun σ' w' σD' M' x' r' e' ⟨kvs',t1,t2⟩=>?_) (fun v w' d M' x' r' rd' ⟨kvs',t1,t2⟩=>?_)
     ·obtain⟨a1,a2,a3,a4⟩:=Nx hn y1 x' r' t1
      exact⟨_,o,vs,a1,nf,q1 σ' _ σD' _ (x1.trans a2) a4 (e'.ext0 a3) t2⟩
     ·obtain⟨a1,a2,a3,a4⟩:=Nx hn y1 x' r' t1
      exact⟨_,o,vs,a1,nf,q2 v _ d _ (x1.trans a2) a4 (rd'.ext0 a3) t2⟩
    ·exact z.elim
   | cons _ _=>exact absurd h Bool.false_ne_true
  | _=>exact absurd h Bool.false_ne_true
 | .while_ t b,k,Z,w0,X,st,G,h=>by
  cases st with
  | While x ls els pos=>
   cases els with
   | nil=>
    change (_&&_)=true at h
    simp only[Bool.and_eq_true] at h
    obtain⟨⟨⟨h1,h2⟩,h3⟩,h4⟩:=h
    refine PS.imp (Zd7 (G.po h1) ((Zs c t k Z w0 X x G h2).2 h3) (Wh c b k Z w0 X ls G h4)) fun R σ H zz136=>?_
    obtain⟨w,σD,M,RR,S,q,q1,q2,q3,q4⟩:=zz136
    obtain⟨W,⟨m0,hm0⟩,step⟩:=q
    refine⟨fun m σ H=>∃w2 σE M2,StOk w0 w2 σE M2 σ H∧Ext w w2∧W m σE M2,⟨m0,w,σD,M,S,Ext.refl w,hm0⟩,?_⟩
    rintro m σ2 H2 ⟨w2,σE,M2,S2,x2,hW⟩
    refine⟨w2,σE,M2,_,S2,step m σE M2 hW,fun z w3 M3 x3 r3 y3=>?_⟩
    cases z with
    | false=>
     rw[if_neg Bool.false_ne_true] at y3 ⊢
     exact q1 σ2 w3 σE M3 (x2.trans x3) r3 (S2.env.ext x3) y3
    | true=>
     rw[if_pos rfl] at y3 ⊢
     have nxt:∀σ' w' σD' M',Ext w3 w'→RS w' M'→REnv w' σD' σ'→(∃m',m'<m∧W m' σD' M')→∃m',m'<m∧∃w2 σE M2,StOk w0 w2 σE M2 σ' w'.H∧Ext w w2∧W m' σE M2:=
      fun σ' w' σD' M' x' r' e' zz137=>by obtain⟨m',l',z'⟩:=zz137;exact⟨m',l',w',σD',M',⟨rfl,(S2.ext.trans x3).trans x',r',e'⟩,(x2.trans x3).trans x',z'⟩
     refine⟨fun σ' H'=>∃m',m'<m∧∃w2 σE M2,StOk w0 w2 σE M2 σ' H'∧Ext w w2∧W m' σE M2,fun σ' H' z=>z,?_⟩
     exact Pb (S2.next x3 r3) y3 nxt (fun v w' d M' x' r' rd' z'=>q2 v w' d M' ((x2.trans x3).trans x') r' rd' z') (fun σ' w' σD' M' x' r' e' z'=>q1 σ' w' σD' M' ((x2.trans x3).trans x') r' e' z') nxt
   | cons _ _=>exact absurd h Bool.false_ne_true
  | _=>exact absurd h Bool.false_ne_true
 | .raise g es,k,Z,w0,X,st,G,h=>by
  obtain⟨x,np,ls,cp,pos,rfl,hs⟩:=Gd h
  simp only[Bool.and_eq_true,beq_iff_eq,decide_eq_true_eq] at hs
  obtain⟨⟨⟨⟨⟨h1,h2⟩,h3⟩,h4⟩,h5⟩,h6⟩:=hs
  exact Gu G h1 h2 h3 h4 h5 h6 (Xj c es k Z w0 X ls G h6).1
 | .tryN hh f es g s,k,Z,w0,X,st,G,h=>by
  obtain⟨bs,x,np,s0,ss,hp,pos,rfl,hs⟩:=Cp h
  simp only[Bool.and_eq_true,beq_iff_eq] at hs
  obtain⟨⟨⟨⟨⟨h1,h2⟩,h3⟩,h4⟩,h7⟩,h8⟩:=hs
  exact Cs G h1 h2 h3 h4 h7 h8 (Wh c s)
theorem Wh(c:Cfg):∀s:Ss,Z63 c s
 | .nil,k,Z,w0,X,st,G,h=>by
  cases st with
  | nil=>
   refine PSs.imp Z34 fun R σ H zz138=>?_
   obtain⟨w,σD,M,RR,S,q,h1,_⟩:=zz138
   have:=h1 σ w σD M (Ext.refl w) S.rs S.env q
   rw[S.heap] at this
   exact this
  | cons _ _=>exact absurd h Bool.false_ne_true
 | .cons s r,k,Z,w0,X,st,G,h=>by
  cases st with
  | nil=>exact absurd h Bool.false_ne_true
  | cons x xs=>
   change (_&&_)=true at h
   simp only[Bool.and_eq_true] at h
   refine PSs.imp (C1 (Y32 c s k Z w0 X x G h.1) (Wh c r k Z w0 X xs G h.2)) fun R σ H zz139=>?_
   obtain⟨w,σD,M,RR,S,q,h1,h2,h3,h4⟩:=zz139
   refine Pb S q ?_ h2 h3 h4
   intro σ' w' σD' M' x' r' e' q'
   exact Pb ⟨rfl,S.ext.trans x',r',e'⟩ q' (fun σ2 w2 σD2 M2 x2 r2 e2 z=>h1 σ2 w2 σD2 M2 (x'.trans x2) r2 e2 z) (h2.ext x') (fun σ2 w2 σD2 M2 x2 r2 e2 z=>h3 σ2 w2 σD2 M2 (x'.trans x2) r2 e2 z) (fun σ2 w2 σD2 M2 x2 r2 e2 z=>h4 σ2 w2 σD2 M2 (x'.trans x2) r2 e2 z)
end
theorem FnOk.cx{P:Program}{w:World}{K:PySem.W.Frag}{mg:Str→Option Value}{base:Heap}{CX:CXT}{k:Nat}{f:Addr}{fd:FuncData}{ps:List Str}{sp:Sp}(F:FnOk P w K mg base CX0 k f fd ps sp):FnOk P w K mg base CX k f fd ps sp:=
 ⟨F.len,fun A outer s H args us vs Q E hr he hb hv hs=>codeAny_mono (F.run A outer s H args us vs Q E hr he hb hv hs) fun r s' h=>by
  cases r with
  | error e=>exact False.elim h
  | ok fl=>cases fl<;>exact h⟩
structure Prg(P:Program)(w:World)(K:PySem.W.Frag)(mg:Str→Option Value)(base:Heap)(c:Cfg)(FN GN BN:List Str)(lv:Nat):Prop where
 hK:c.K=K
 fns:∀(f:Nat) (x:Str) (sp:DSp),FN[f]?=some x→c.Γ[f]?=some sp→∃(kk:Nat) (f:Addr) (fd:FuncData) (ps:List Str) (ds:List Value) (dvs:List V) (dD:List D) (sp0:DSp),FnOk P w K mg base (CX1 P w) kk f fd ps (spF K sp0)∧kk≤lv∧mg x=some (.ref f)∧PySem.W.keepIn K (.ref f)=true∧
  Zq K fd ps ds∧Vals dvs ds∧(∀w:Vw,w.K=K→RDs w dD dvs)∧∀as M Q Z,sp as M Q Z→sp0 (as++dD) M Q Z
 flen:FN.length=c.Γ.length
 glb:∀(g:Nat) (x:Str) (d:D),GN[g]?=some x→c.G[g]?=some d→∃v u,mg x=some u∧RelV v u∧∀w:Vw,w.K=K→RD w d v
 blt:∀x,x∈BN→mg x=none
noncomputable def start0(N:List Str)(ds:List D):DEnv:=ds.map some++List.replicate (N.length - ds.length) none
theorem Jv{w:Vw}{N:List Str}{ds:List D}{vs:List V}(r:RDs w ds vs):REnv w (start0 N ds) (L2.start N vs):=by
 refine⟨by unfold start0 L2.start;simp[r.length],fun i d e=>?_⟩
 unfold start0 at e
 unfold L2.start
 by_cases hi:i<ds.length
 ·rw[List.getElem?_append_left (by simpa using hi),List.getElem?_map] at e
  rw[List.getElem?_append_left (by rw[List.length_map,r.length];exact hi),List.getElem?_map]
  cases hd:ds[i]? with
  | none=>rw[hd] at e;cases e
  | some d'=>
   rw[hd] at e
   have e':d'=d:=by simpa using e
   subst e'
   obtain⟨v,q1,q2⟩:=r.get hd
   exact⟨v,by rw[q1];rfl,q2⟩
 ·rw[List.getElem?_append_right (by simpa using hi)] at e
  have:=List.getElem?_eq_some_iff.mp e
  simp at this
section
variable{P:Program}{w:World}{K:PySem.W.Frag}{mg:Str→Option Value}{base:Heap}{c:Cfg}{FN GN BN:List Str}{lv:Nat}{x qual:Str}{st:Stmt}{f:Addr}{fd:FuncData}{N ps:List Str}
noncomputable abbrev ck0(N:List Str)(st:Stmt)(FN GN BN:List Str):Ck:=⟨N,Z0 st,FN,GN,BN,true,true,true,[],true,[]⟩
noncomputable abbrev ck1(rs:List Nat)(N:List Str)(st:Stmt)(FN GN BN:List Str):Ck:=⟨N,Z0 st,FN,GN,BN,true,true,true,rs,true,[]⟩
theorem fn0(Pr:Prg P w K mg base c FN GN BN lv)(F:Fun K x qual st f fd)(S:FnScope N ps (Z0 st)){body:Ss}(hc:Y8 (ck0 N st FN GN BN) body (Z4 st)=true){sp:DSp}(hl:∀ds M Q Z,sp ds M Q Z→ds.length=ps.length)
  (hb:∀ds M Q Z,sp ds M Q Z→tss c noX body {nx:=fun _ M=>Q .non M,rt:=Q} (start0 N ds) M):FnOk P w K mg base (CX1 P w) (lv+1) f fd ps (spF K sp):=by
 refine FnOk.cx (F.ok S (fun vs H Q E h=>?_) fun cdv A outer s H vs Q E hr h=>?_)
 ·obtain⟨w,ds,M,QD,Z,_,_,_,r,h,_⟩:=h
  rw[r.length];exact hl _ _ _ _ h
 obtain⟨w',ds,M,QD,Z,hK',rfl,R,r,h,a,xk⟩:=h
 have G:Good c (ck0 N st FN GN BN) noX w' (cxOf CX0 P w K mg base N qual (Z0 st) f cdv A outer s w'.H E).nox:=
  {hK:=Pr.hK.symm
   wK:=hK'.trans Pr.hK.symm
   N:=rfl
   nd:=S.nd
   sc:=rfl
   calm:=fun _=>rfl
   units:=hr.units
   fns:=fun _ f x sp h1 h2=>by
    obtain⟨kk,f,fd,ps,ds,dvs,dD,sp0,F,hk,h⟩:=Pr.fns f x sp h1 h2
    exact⟨kk,f,fd,ps,ds,dvs,dD,sp0,F,hr.mono hk,h⟩
   flen:=Pr.flen
   glb:=Pr.glb
   blt:=Pr.blt
   exc:=⟨E0,fun _ _ _ _ _ _ _ h=>by
    obtain⟨_,_,_,_,_,_,_,_,_,_,_,_,_,_,_,h⟩:=h
    exact h.elim,fun cls dd H' h=>by
    obtain⟨_,_,_,_,_,_,_,_,_,_,_,_,_,h⟩:=h
    exact h.elim⟩
   stk:=fun _=>⟨rfl,rfl⟩
   rai:=fun _ h=>absurd h Bool.false_ne_true
   po:=fun _=>PassesOwn.never
   fnc:=fun _ _=>rfl
   fno:=fun _ h=>by cases h}
 refine⟨_,Wh c body _ _ w' _ _ G hc,w',start0 N ds,M,{nx:=fun _ M=>QD .non M,rt:=QD},⟨rfl,Ext.refl w',R,Jv r⟩,hb _ _ _ _ h,?_,a,?_,?_⟩
 ·exact fun σ' w2 σD' M' x' r' e' q'=>a .non w2 .non M' x' r' (Yi.mpr rfl) q'
 ·exact fun σ' w2 σD' M' x' r' e' q'=>q'.elim
 ·exact fun σ' w2 σD' M' x' r' e' q'=>q'.elim
def PrgR(P:Program)(w:World)(K:PySem.W.Frag)(mg:Str→Option Value)(base:Heap)(c:Cfg)(rs:List Nat)(lv:Nat):Prop:=∀g:Nat,rs.contains g=true→∀C:Addr,c.G[g]?=some (.cls C)→∃(kk:Nat) (f:Addr) (fd:FuncData),ExcMk K C f∧FnOk P w K mg base CX0 kk f fd ["self","row"] (Pp K)∧kk+1≤lv∧
 Zq K fd ["self","row"] [.none]∧Zq K fd ["self","row"] []∧ExcSet K C "row"
theorem fn1(Pr:Prg P w K mg base c FN GN BN lv){rs:List Nat}(Rr:PrgR P w K mg base c rs lv)(F:Fun K x qual st f fd)(S:FnScope N ps (Z0 st)){body:Ss}(hc:Y8 (ck1 rs N st FN GN BN) body (Z4 st)=true){sp:DSp}(hl:∀ds M Q Z,sp ds M Q Z→ds.length=ps.length)
  (hb:∀ds M Q Z,sp ds M Q Z→tss c Z body {nx:=fun _ M=>Q .non M,rt:=Q} (start0 N ds) M):FnOk P w K mg base (CX1 P w) (lv+1) f fd ps (spF K sp):=by
 refine Zs2 F S (fun vs H Q E h=>?_) fun cdv A outer s H vs Q E hr h=>?_
 ·obtain⟨w,ds,M,QD,Z,_,_,_,r,h,_⟩:=h
  rw[r.length];exact hl _ _ _ _ h
 obtain⟨w',ds,M,QD,Z,hK',rfl,R,r,h,a,xk⟩:=h
 have G:Good c (ck1 rs N st FN GN BN) Z w' (cxOf (CX1 P w) P w K mg base N qual (Z0 st) f cdv A outer s w'.H E):=
  {hK:=Pr.hK.symm
   wK:=hK'.trans Pr.hK.symm
   N:=rfl
   nd:=S.nd
   sc:=rfl
   calm:=fun _=>rfl
   units:=hr.units
   fns:=fun _ f x sp h1 h2=>by
    obtain⟨kk,f,fd,ps,ds,dvs,dD,sp0,F,hk,h⟩:=Pr.fns f x sp h1 h2
    exact⟨kk,f,fd,ps,ds,dvs,dD,sp0,F,hr.mono hk,h⟩
   flen:=Pr.flen
   glb:=Pr.glb
   blt:=Pr.blt
   exc:=⟨E,Y76 Nr,xk⟩
   stk:=fun _=>⟨rfl,rfl⟩
   rai:=fun g hm=>⟨⟨E,Nr,xk⟩,fun C hg=>by
    obtain⟨kk,f,fd,h1,h2,h3,h4,h5,h6⟩:=Rr g hm C hg
    exact⟨kk,f,fd,h1,h2,hr.mono h3,h4,h5,h6⟩⟩
   po:=fun _=>PassesOwn.leaving
   fnc:=fun _ _=>rfl
   fno:=fun _ h=>by cases h}
 refine⟨_,Wh c body _ _ w' _ _ G hc,w',start0 N ds,M,{nx:=fun _ M=>QD .non M,rt:=QD},⟨rfl,Ext.refl w',R,Jv r⟩,hb _ _ _ _ h,?_,a,?_,?_⟩
 ·exact fun σ' w2 σD' M' x' r' e' q'=>a .non w2 .non M' x' r' (Yi.mpr rfl) q'
 ·exact fun σ' w2 σD' M' x' r' e' q'=>q'.elim
 ·exact fun σ' w2 σD' M' x' r' e' q'=>q'.elim
end
def B1:DSp:=fun ds M Q _=>∃ns:List Int,ds=[.ref 0]∧M=[.frz (ns.map .int)]∧ns.length≤63∧(∀i∈ns,Bits bigN i)∧∀M',Q (.bl true) M'
theorem E1(w:Vw):∀ns:List Int,RDs w (ns.map .int) (ns.map V.int)
 | []=>RDs.nil w
 | _::r=>RDs.cons (Zc.mpr rfl) (E1 w r)
theorem Zi8{l:PySem.W.OpenLaw}{k:Nat}{q:Program}{loose:List Str}{XP:(Str→Option Value)→Heap→Prop}{YP:World→Heap→Prop}{d:DefRec}{K:Params→PySem.W.Frag}{x:Str}(hn:l.most=some 63)(hdf:d.params.defaults=[])(hr:Room k callerA)
  (hY:∀(w:World) (h:Heap),YP w h→(K w.params).In h)
  (F:∀(w:World) (mg:Str→Option Value) (fa:Addr) (h:Heap),(K w.params).In h→h.Ns mainGlobals mg→mg d.name=some (.ref fa)→
   ∃fd:FuncData,(∀(s:Shared) (u:Value),BindsTo s fd ⟨[u],[]⟩ [(x,u)])∧∀base:Heap,(K w.params).In base→base.Ns mainGlobals mg→FnOk l.prog w (K w.params) mg base (CX1 l.prog w) k fa fd [x] (spF (K w.params) B1)):
  PySem.W.WalkO q loose XP YP l.row.toRowW d [] (fun f vs=>PySem.call f vs):=by
 refine Y30 (n:=63) (k:=k) (x:=x) (CX:=fun w=>CX1 l.prog w) (sp:=fun w=>spF (K w.params) B1) hn (by decide) hdf hr hY F (fun w H a ns hl hb hO hS=>?_) fun w H s e s' h=>?_
 ·have hF:SqF (K w.params) H a (ns.map V.int):=by
   rcases hS with(h | ⟨o,h⟩) | h
   ·rcases hO a with z | ⟨o,xs,z⟩
    ·rw[z] at h;cases h
    ·rw[z] at h;cases h
   ·exact .inl ⟨o,h⟩
   ·exact .inr (.inr h)
  refine⟨⟨K w.params,H,fun _=>a,1⟩,[.ref 0],[.frz (ns.map .int)],fun d _=>d= .bl true,noX,rfl,rfl,⟨rfl,fun i j ci cj ei ej mi mj _=>?_,fun i c' e=>?_⟩,RDs.cons (Zy.mpr ⟨Nat.one_pos,rfl⟩) (RDs.nil _),⟨ns,rfl,rfl,hl,hb,fun _=>rfl⟩,fun v w' d M' _ _ rd e=>?_,fun cls dd H' h=>?_⟩
  ·have h1:=(List.getElem?_eq_some_iff.mp ei).1
   have h2:=(List.getElem?_eq_some_iff.mp ej).1
   simp at h1 h2
   omega
  ·have h1:=(List.getElem?_eq_some_iff.mp e).1
   have hi:i=0:=by simp at h1;exact h1
   subst hi
   simp at e
   subst e
   exact⟨_,hF,E1 _ ns⟩
  ·subst e
   exact Xd.mp rd
  ·obtain⟨_,_,_,_,_,_,_,_,_,_,_,_,_,h⟩:=h
   exact h.elim
 ·obtain⟨_,_,_,_,_,_,_,_,_,_,_,_,_,_,_,h⟩:=h
  exact h.elim
def bot:DSp:=fun _ _ _ _=>False
def Ent(K:PySem.W.Frag)(mg:Str→Option Value)(x:Str):Prop:=∃(f:Addr) (fd:FuncData) (ps:List Str),mg x=some (.ref f)∧PySem.W.keepIn K (.ref f)=true∧Zq K fd ps []
section
variable{P:Program}{w:World}{K:PySem.W.Frag}{mg:Str→Option Value}{base:Heap}{Γ:List DSp}{G:List D}{FN GN BN:List Str}{lv:Nat}
theorem Prg.zero(hF:∀x∈FN,Ent K mg x)(hl:FN.length=Γ.length)(hb:∀sp∈Γ,sp=bot)(hg:∀(g:Nat) (x:Str) (d:D),GN[g]?=some x→G[g]?=some d→∃v u,mg x=some u∧RelV v u∧∀w:Vw,w.K=K→RD w d v)(hB:∀x∈BN,mg x=none):
  Prg P w K mg base ⟨K,Γ,G⟩ FN GN BN 0 where
 hK:=rfl
 fns:=fun f x sp h1 h2=>by
  obtain⟨fa,fd,ps,e1,e2,e3⟩:=hF x (List.mem_of_getElem? h1)
  have hs:sp=bot:=hb sp (List.mem_of_getElem? h2)
  subst hs
  have no:∀vs H Q E,¬spF K bot vs H Q E:=fun vs H Q E zz140=>by obtain⟨_,_,_,_,_,_,_,_,_,h,_⟩:=zz140;exact h
  exact⟨0,fa,fd,ps,[],[],[],bot,⟨fun vs H Q E h=>absurd h (no vs H Q E),fun A outer s H args us vs Q E _ _ _ _ h=>absurd h (no vs H Q E)⟩,Nat.le_refl _,e1,e2,e3,.nil,fun w _=>RDs.nil w,fun _ _ _ _ h=>h.elim⟩
 flen:=hl
 glb:=hg
 blt:=hB
theorem Prg.addD(Pr:Prg P w K mg base ⟨K,Γ,G⟩ FN GN BN lv)(n:Nat){x:Str}{sp0:DSp}{kk lv':Nat}{f:Addr}{fd:FuncData}{ps:List Str}{ds:List Value}{dvs:List V}{dD:List D}(hx:FN[n]?=some x)(F:FnOk P w K mg base (CX1 P w) kk f fd ps (spF K sp0))(h1:kk≤lv')(h2:lv≤lv')(hm:mg x=some (.ref f))(hk:PySem.W.keepIn K (.ref f)=true)(hb:Zq K fd ps ds)
  (hv:Vals dvs ds) (hd:∀w:Vw,w.K=K→RDs w dD dvs):Prg P w K mg base ⟨K,Γ.set n (fun as M Q Z=>sp0 (as++dD) M Q Z),G⟩ FN GN BN lv' where
 hK:=rfl
 fns:=fun m y sp' e1 e2=>by
  by_cases hmn:n=m
  ·subst hmn
   rw[hx] at e1
   cases e1
   have hl:n<Γ.length:=by rw[←Pr.flen];exact(List.getElem?_eq_some_iff.mp hx).1
   have e2:(Γ.set n (fun as M Q Z=>sp0 (as++dD) M Q Z))[n]?=some sp':=e2
   rw[List.getElem?_set_self hl] at e2
   cases e2
   exact⟨kk,f,fd,ps,ds,dvs,dD,sp0,F,h1,hm,hk,hb,hv,hd,fun as M Q Z h=>h⟩
  ·have e2:(Γ.set n (fun as M Q Z=>sp0 (as++dD) M Q Z))[m]?=some sp':=e2
   rw[List.getElem?_set_ne hmn] at e2
   obtain⟨kk,f,fd,ps,ds,dvs,dD,sp1,F,hk,h⟩:=Pr.fns m y sp' e1 e2
   exact⟨kk,f,fd,ps,ds,dvs,dD,sp1,F,Nat.le_trans hk h2,h⟩
 flen:=by rw[Pr.flen];simp
 glb:=Pr.glb
 blt:=Pr.blt
theorem Prg.add(Pr:Prg P w K mg base ⟨K,Γ,G⟩ FN GN BN lv)(n:Nat){x:Str}{sp:DSp}{kk lv':Nat}{f:Addr}{fd:FuncData}{ps:List Str}(hx:FN[n]?=some x)(F:FnOk P w K mg base (CX1 P w) kk f fd ps (spF K sp))(h1:kk≤lv')(h2:lv≤lv')(hm:mg x=some (.ref f))(hk:PySem.W.keepIn K (.ref f)=true)(hb:Zq K fd ps []):
  Prg P w K mg base ⟨K,Γ.set n sp,G⟩ FN GN BN lv' where
 hK:=rfl
 fns:=fun m y sp' e1 e2=>by
  by_cases hmn:n=m
  ·subst hmn
   rw[hx] at e1
   cases e1
   have hl:n<Γ.length:=by rw[←Pr.flen];exact(List.getElem?_eq_some_iff.mp hx).1
   have e2:(Γ.set n sp)[n]?=some sp':=e2
   rw[List.getElem?_set_self hl] at e2
   cases e2
   exact⟨kk,f,fd,ps,[],[],[],sp,F,h1,hm,hk,hb,.nil,fun w _=>RDs.nil w,fun as M Q Z h=>by rw[List.append_nil];exact h⟩
  ·have e2:(Γ.set n sp)[m]?=some sp':=e2
   rw[List.getElem?_set_ne hmn] at e2
   obtain⟨kk,f,fd,ps,ds,dvs,dD,sp0,F,hk,h⟩:=Pr.fns m y sp' e1 e2
   exact⟨kk,f,fd,ps,ds,dvs,dD,sp0,F,Nat.le_trans hk h2,h⟩
 flen:=by rw[Pr.flen];simp
 glb:=Pr.glb
 blt:=Pr.blt
end
theorem Zn{M N:Z1}{a:Nat}{xs:List D}(h:Zg M a=some xs):Zg (M++N) a=some xs:=by
 unfold Zg at *
 have ha:a<M.length:=by
  cases e:M[a]? with
  | none=>rw[e] at h;cases h
  | some c=>exact(List.getElem?_eq_some_iff.mp e).1
 rw[List.getElem?_append_left ha];exact h
theorem Ze{M N:Z1}{a:Nat}{xs:List D}(h:Zi M a=some xs):Zi (M++N) a=some xs:=by
 unfold Zi at *
 have ha:a<M.length:=by
  cases e:M[a]? with
  | none=>rw[e] at h;cases h
  | some c=>exact(List.getElem?_eq_some_iff.mp e).1
 rw[List.getElem?_append_left ha];exact h
theorem Y4{M N:Z1}{a:Nat}{xs:List (Key×D)}(h:Zd M a=some xs):Zd (M++N) a=some xs:=by
 unfold Zd at *
 have ha:a<M.length:=by
  cases e:M[a]? with
  | none=>rw[e] at h;cases h
  | some c=>exact(List.getElem?_eq_some_iff.mp e).1
 rw[List.getElem?_append_left ha];exact h
theorem Gx(M:Z1)(c:Cell)(N:Z1):(M++c::N)[M.length]?=some c:=by simp
theorem Z43(M N:Z1)(k:Nat):(M++N)[M.length+k]?=N[k]?:=by rw[List.getElem?_append_right (by omega)];congr 1;omega
theorem Yp(M:Z1)(xs:List D)(N:Z1):Zg (M++ .lst xs::N) M.length=some xs:=by unfold Zg;rw[Gx]
theorem Y1(M:Z1)(xs:List D)(N:Z1):Zi (M++ .lst xs::N) M.length=some xs:=by unfold Zi;rw[Gx]
theorem Yo(M:Z1)(xs:List (Key×D))(N:Z1):Zd (M++ .dct xs::N) M.length=some xs:=by unfold Zd;rw[Gx]
theorem Tz(M N:Z1)(k:Nat):Zi (M++N) (M.length+k)=Zi N k:=by unfold Zi;rw[Z43]
theorem Bj(M N:Z1)(k:Nat):Zd (M++N) (M.length+k)=Zd N k:=by unfold Zd;rw[Z43]
theorem W5(M:Z1)(c d:Cell)(N:Z1):(M++c::N).set M.length d=M++d::N:=by
 rw[List.set_append_right _ _ (Nat.le_refl _)];simp
theorem Sx(M N:Z1)(k:Nat)(d:Cell):(M++N).set (M.length+k) d=M++N.set k d:=by
 rw[List.set_append_right _ _ (by omega)];congr 2;omega
theorem Z3{M:Z1}{n:Nat}{xs:List D}(h:Zi M n=some xs):Zg M n=some xs:=Zp8 h
theorem Sg{M:Z1}{a b:Nat}{c:Cell}(h:b≠a):Zd (M.set b c) a=Zd M a:=by unfold Zd;rw[List.getElem?_set_ne h]
theorem By{M:Z1}{n:Nat}{xs:List D}(h:Zg M n=some xs):n<M.length:=by
 unfold Zg at h
 cases e:M[n]? with
 | none=>rw[e] at h;cases h
 | some c=>exact(List.getElem?_eq_some_iff.mp e).1
theorem X4{M:Z1}{n:Nat}{xs:List (Key×D)}(h:Zd M n=some xs):n<M.length:=by
 unfold Zd at h
 cases e:M[n]? with
 | none=>rw[e] at h;cases h
 | some c=>exact(List.getElem?_eq_some_iff.mp e).1
theorem N9{lo:Int}{n i:Nat}(h:i<n):(Qm lo n)[i]?=some (.int (lo+i)):=by
 unfold Qm;rw[List.getElem?_map,List.getElem?_range h];rfl
theorem W2(lo:Int)(n:Nat):(Qm lo n).length=n:=by unfold Qm;simp
theorem S3{own:Own}{xs:List D}{tg:List Nat}{body:DS}{R:DEnds}{σ:DEnv}{M:Z1}(I:Nat→DEnv→Z1→Prop)(h0:I 0 σ M)(hs:∀i σ M,i≤xs.length→I i σ M→O8 own xs M)
  (step:∀(i:Nat) (d:D) σ M (C:DEnv→Z1→Prop),xs[i]?=some d→I i σ M→(∀σ2 M2,I (i+1) σ2 M2→C σ2 M2)→tgD tg d σ fun σ'=>body {nx:=C,rt:=R.rt,bk:=R.nx,ct:=C} σ' M)
  (fin:∀σ M,I xs.length σ M→R.nx σ M):forD own xs tg body xs R σ M:=by
 have key:∀(j:Nat) σ M,j≤xs.length→I (xs.length - j) σ M→forD own xs tg body (xs.drop (xs.length - j)) R σ M:=by
  intro j
  induction j with
  | zero=>
   intro σ M _ h
   rw[Nat.sub_zero] at h ⊢
   rw[List.drop_length]
   exact⟨hs _ σ M (Nat.le_refl _) h,fin σ M h⟩
  | succ j ih=>
   intro σ M hj h
   have hi:xs.length - (j+1)<xs.length:=by omega
   have e:xs.length - (j+1)+1=xs.length - j:=by omega
   rw[List.drop_eq_getElem_cons hi]
   refine⟨hs _ σ M (by omega) h,step _ _ σ M _ (List.getElem?_eq_getElem hi) h fun σ2 M2 h2=>?_⟩
   rw[e] at h2 ⊢
   exact ih σ2 M2 (by omega) h2
 have:=key xs.length σ M (Nat.le_refl _) (by rw[Nat.sub_self];exact h0)
 rw[Nat.sub_self] at this
 exact this
theorem Wd{lo:Int}{n:Nat}{tg:List Nat}{body:DS}{R:DEnds}{σ:DEnv}{M:Z1}(I:Nat→DEnv→Z1→Prop)(h0:I 0 σ M)
  (step:∀(i:Nat) σ M (C:DEnv→Z1→Prop),i<n→I i σ M→(∀σ2 M2,I (i+1) σ2 M2→C σ2 M2)→tgD tg (.int (lo+i)) σ fun σ'=>body {nx:=C,rt:=R.rt,bk:=R.nx,ct:=C} σ' M)
  (fin:∀σ M,I n σ M→R.nx σ M):forD .no (Qm lo n) tg body (Qm lo n) R σ M:=by
 refine S3 I h0 (fun _ _ _ _ _=>trivial) (fun i d σ M C hd hI hC=>?_) (fun σ M h=>fin σ M (by rw[W2] at h;exact h))
 have hi:i<n:=by
  have:=(List.getElem?_eq_some_iff.mp hd).1
  rwa[W2] at this
 rw[N9 hi] at hd
 cases hd
 exact step i σ M C hi hI hC
theorem Fk{own:Own}{xs:List D}{tg:List Nat}{cd:DT}{el:DE}{z:Nat}{Q:Z1→Prop}{σ:DEnv}{M:Z1}(I:Nat→DEnv→Z1→Prop)(h0:I 0 σ M)(hs:∀i σ M,i≤xs.length→I i σ M→O8 own xs M)
  (step:∀(i:Nat) (d:D) σ M (C:DEnv→Z1→Prop),xs[i]?=some d→I i σ M→(∀σ2 M2,I (i+1) σ2 M2→C σ2 M2)→tgD tg d σ fun σ'=>cd σ' M fun b M1=>if b=true then
   el σ' M1 fun y M2=>∃acc,Zi M2 z=some acc∧acc.length<sizeLine∧C σ' (M2.set z (.lst (acc++[y]))) else C σ' M1)
  (fin:∀σ M,I xs.length σ M→Q M):Jz own xs tg cd el z xs σ M Q:=by
 have key:∀(j:Nat) σ M,j≤xs.length→I (xs.length - j) σ M→Jz own xs tg cd el z (xs.drop (xs.length - j)) σ M Q:=by
  intro j
  induction j with
  | zero=>
   intro σ M _ h
   rw[Nat.sub_zero] at h ⊢
   rw[List.drop_length]
   exact⟨hs _ σ M (Nat.le_refl _) h,fin σ M h⟩
  | succ j ih=>
   intro σ M hj h
   have hi:xs.length - (j+1)<xs.length:=by omega
   have e:xs.length - (j+1)+1=xs.length - j:=by omega
   rw[List.drop_eq_getElem_cons hi]
   refine⟨hs _ σ M (by omega) h,step _ _ σ M (fun σ2 M2=>Jz own xs tg cd el z (xs.drop (xs.length - (j+1)+1)) σ2 M2 Q) (List.getElem?_eq_getElem hi) h fun σ2 M2 h2=>?_⟩
   rw[e] at h2 ⊢
   exact ih σ2 M2 (by omega) h2
 have:=key xs.length σ M (Nat.le_refl _) (by rw[Nat.sub_self];exact h0)
 rw[Nat.sub_self] at this
 exact this
theorem mulR{i j:Int}(h1:-(2 ^ 64)<j)(h2:j<2 ^ 64):IntMulOk i j:=CMul.ok (.inr ⟨h1,h2⟩)
theorem mulL{i j:Int}(h1:-(2 ^ 64)<i)(h2:i<2 ^ 64):IntMulOk i j:=CMul.ok (.inl ⟨h1,h2⟩)
theorem Sy{i j:Int}(h1:0<j)(h2:j<2 ^ 64):Z82 i j:=by
 refine⟨by omega,?_⟩
 have h3:j.natAbs<2 ^ 64:=by omega
 exact Nat.lt_trans (Ph h3 (by decide)) (by decide)
theorem Z2{n:Nat}(h:n≤16000000):n≤sizeLine:=by rw[sizeLine_eq];omega
theorem Zl{n:Nat}(h:n≤16000000):n<sizeLine:=by rw[sizeLine_eq];omega
section
variable{M:Z1}{Q:DK}{B:Bool→Prop}{i j:Int}{a b:Str}{p q:Bool}{xs ys:List D}{n m:Nat}{K:PySem.W.Frag}
theorem op_add_i:opD .add (.int i) (.int j) M Q=Q (.int (i+j)) M:=rfl
theorem op_add_s:opD .add (.str a) (.str b) M Q=(a.length+b.length≤sizeLine∧Q (.str (a++b)) M):=rfl
theorem op_add_t:opD .add (.tup xs) (.tup ys) M Q=(xs≠[]∧xs.length+ys.length≤sizeLine∧Q (.tup (xs++ys)) M):=rfl
theorem op_add_l:opD .add (.ref n) (.ref m) M Q=∃xs ys,Zi M n=some xs∧Zi M m=some ys∧xs.length+ys.length≤sizeLine∧Q (.ref M.length) (M++[.lst (xs++ys)]):=rfl
theorem op_sub_i:opD .sub (.int i) (.int j) M Q=Q (.int (i - j)) M:=rfl
theorem op_mul_i:opD .mul (.int i) (.int j) M Q=(IntMulOk i j∧Q (.int (i * j)) M):=rfl
theorem op_mul_l:opD .mul (.ref n) (.int i) M Q=∃xs,Zi M n=some xs∧0≤i∧i<2 ^ 62∧xs.length * i.toNat≤sizeLine∧Q (.ref M.length) (M++[.lst (List.replicate i.toNat xs).flatten]):=rfl
theorem op_fdiv_i:opD .fdiv (.int i) (.int j) M Q=(Z82 i j∧Q (.int (qdiv i j)) M):=rfl
theorem op_mod_i:opD .mod (.int i) (.int j) M Q=(j≠0∧Q (.int (qmod i j)) M):=rfl
theorem op_pow_i:opD .pow (.int i) (.int j) M Q=(CPow i j∧Q (.int (i ^ j.toNat)) M):=rfl
theorem op_and_i:opD .band (.int i) (.int j) M Q=Q (.int (Builtin.bitAnd i j)) M:=rfl
theorem op_xor_i:opD .bxor (.int i) (.int j) M Q=Q (.int (Builtin.bitXor i j)) M:=rfl
theorem cm_lt_i:cmD M .lt (.int i) (.int j) B=B (decide (i<j)):=rfl
theorem cm_le_i:cmD M .le (.int i) (.int j) B=B (decide (i≤j)):=rfl
theorem cm_gt_i:cmD M .gt (.int i) (.int j) B=B (decide (j<i)):=rfl
theorem cm_ge_i:cmD M .ge (.int i) (.int j) B=B (decide (j≤i)):=rfl
theorem cm_eq{x y:D}:cmD M .eq x y B=eqD M x y B:=rfl
theorem cm_ne{x y:D}:cmD M .ne x y B=eqD M x y fun b=>B (!b):=rfl
theorem cm_in{x y:D}:cmD M .isin x y B=inQ M x y B:=rfl
theorem cm_notin{x y:D}:cmD M .notin x y B=inQ M x y fun b=>B (!b):=rfl
theorem cm_is_n:cmD M .is .non .non B=B true:=rfl
theorem cm_is_i:cmD M .is (.int i) .non B=B false:=rfl
theorem cm_is_s:cmD M .is (.str a) .non B=B false:=rfl
theorem cm_is_b:cmD M .is (.bl p) .non B=B false:=rfl
theorem cm_is_t:cmD M .is (.tup xs) .non B=B false:=rfl
theorem cm_is_r:cmD M .is (.ref n) .non B=B false:=rfl
theorem eq_i:eqD M (.int i) (.int j) B=B (decide (i=j)):=rfl
theorem eq_s:eqD M (.str a) (.str b) B=B (decide (a=b)):=rfl
theorem eq_b:eqD M (.bl p) (.bl q) B=B (decide (p=q)):=rfl
theorem eq_nn:eqD M .non .non B=B true:=rfl
theorem eq_is:eqD M (.int i) (.str b) B=B false:=rfl
theorem eq_si:eqD M (.str b) (.int i) B=B false:=rfl
theorem tru_b:truD M (.bl p) B=B p:=rfl
theorem tru_i:truD M (.int i) B=B (i !=0):=rfl
theorem tru_n:truD M .non B=B false:=rfl
theorem tru_t:truD M (.tup xs) B=B (!xs.isEmpty):=rfl
theorem ix_t{F:D→Prop}:ixD M (.tup xs) (.int i) F=∃d,atI xs i=some d∧F d:=rfl
theorem ix_g{F:D→Prop}:ixD M (.gtup xs) (.int i) F=∃d,atI xs i=some d∧F d:=rfl
theorem ix_s{F:D→Prop}:ixD M (.str a) (.int i) F=(a.length≤sizeLine∧∃c,atI a.cps.toList i=some c∧F (.str ⟨#[c]⟩)):=rfl
theorem ix_l{F:D→Prop}{k:Nat}(h:Zg M n=some xs){d:D}(hd:xs[k]?=some d)(hF:F d):ixD M (.ref n) (.int k) F:= .inl ⟨xs,k,d,rfl,h,Rk hd,hF⟩
theorem Y72{F:D→Prop}(h:Zg M n=some xs){d:D}(hd:atI xs i=some d)(hF:F d):ixD M (.ref n) (.int i) F:= .inl ⟨xs,i,d,rfl,h,hd,hF⟩
theorem ix_d{F:D→Prop}{kvs:List (Key×D)}{k:D}{y:Key}(h:Zd M n=some kvs)(hk:keyD k=some y){d:D}(hd:valD kvs y=some d)(hF:F d):ixD M (.ref n) k F:= .inr ⟨kvs,y,d,Zr4 h,hk,hd,hF⟩
theorem ix_f{F:D→Prop}{kvs:List (Key×D)}{k:D}{y:Key}(h:M[n]?=some (.fdc kvs))(hk:keyD k=some y){d:D}(hd:valD kvs y=some d)(hF:F d):ixD M (.ref n) k F:= .inr ⟨kvs,y,d,by unfold Cb;rw[h],hk,hd,hF⟩
theorem sl_s{lo hi:Option Int}:slD (.str a) lo hi M Q=(a.length≤sizeLine∧Q (.str (Txt.slice a lo hi)) M):=rfl
theorem sl_t{lo hi:Option Int}:slD (.tup xs) lo hi M Q=(¬(HT.sIx xs.length 0 lo=0∧HT.sIx xs.length xs.length hi=xs.length)∧Q (.tup (cutD xs lo hi)) M):=rfl
theorem sl_l{lo hi:Option Int}:slD (.ref n) lo hi M Q=∃xs,Zg M n=some xs∧Q (.ref M.length) (M++[.lst (cutD xs lo hi)]):=rfl
noncomputable def tyNon:Ty→Bool:=fun _=>false
noncomputable def tyBl:Ty→Bool
 | .bool=>true | .int=>true | _=>false
noncomputable def tyInt:Ty→Bool
 | .int=>true | _=>false
noncomputable def tyStr:Ty→Bool
 | .str=>true | _=>false
noncomputable def tyTup:Ty→Bool
 | .tuple=>true | _=>false
noncomputable def tyLst:Ty→Bool
 | .list=>true | _=>false
noncomputable def tyDct:Ty→Bool
 | .dict=>true | _=>false
theorem Rj{d:D}{t:Ty}{s:String}{v:Bool}(hd:∀e C dx r,d≠ .exn e C dx r)(h1:tyD M d=some s)(h2:PySem.W.kitOne K (.type s) (.type (Yt t))=some v):isD K M d (.ty (Yt t)) B=B v:=by
 have:isD K M d (.ty (Yt t)) B=∃t' b,tyD M d=some t'∧PySem.W.kitOne K (.type t') (.type (Yt t))=some b∧B b:=by
  cases d<;>first | rfl | exact absurd rfl (hd _ _ _ _)
 rw[this]
 apply propext
 constructor
 ·rintro⟨t',b,e1,e2,h⟩
  rw[h1] at e1
  cases e1
  rw[h2] at e2
  cases e2
  exact h
 ·intro h;exact⟨s,v,h1,h2,h⟩
theorem is_non{t:Ty}:isD K M .non (.ty (Yt t)) B=B (tyNon t):=Rj (fun _ _ _ _ h=>nomatch h) rfl (by cases t<;>rfl)
theorem is_bl{t:Ty}:isD K M (.bl p) (.ty (Yt t)) B=B (tyBl t):=Rj (fun _ _ _ _ h=>nomatch h) rfl (by cases t<;>rfl)
theorem is_int{t:Ty}:isD K M (.int i) (.ty (Yt t)) B=B (tyInt t):=Rj (fun _ _ _ _ h=>nomatch h) rfl (by cases t<;>rfl)
theorem is_str{t:Ty}:isD K M (.str a) (.ty (Yt t)) B=B (tyStr t):=Rj (fun _ _ _ _ h=>nomatch h) rfl (by cases t<;>rfl)
theorem is_tup{t:Ty}:isD K M (.tup xs) (.ty (Yt t)) B=B (tyTup t):=Rj (fun _ _ _ _ h=>nomatch h) rfl (by cases t<;>rfl)
theorem Z61{t:Ty}(h:Zi M n=some xs):isD K M (.ref n) (.ty (Yt t)) B=B (tyLst t):=Rj (s:="list") (fun _ _ _ _ h=>nomatch h) (by simp only[tyD,Of h]) (by cases t<;>rfl)
theorem Zn0{t:Ty}{kvs:List (Key×D)}(h:Zd M n=some kvs):isD K M (.ref n) (.ty (Yt t)) B=B (tyDct t):=Rj (s:="dict") (fun _ _ _ _ h=>nomatch h) (by simp only[tyD,We h]) (by cases t<;>rfl)
theorem Yq(h:Zg M n=some xs)(hq:Q (.int xs.length) M):bfD K .len [.ref n] M Q:= .inl ⟨xs,h,hq⟩
theorem bf_len_t:bfD K .len [.tup xs] M Q=Q (.int xs.length) M:=rfl
theorem bf_len_s:bfD K .len [.str a] M Q=(a.length≤sizeLine∧Q (.int a.length) M):=rfl
theorem bf_is{d c:D}:bfD K .isinst [d,c] M Q=isD K M d c fun b=>Q (.bl b) M:=rfl
theorem bf_min:bfD K .min2 [.int i,.int j] M Q=Q (.int (if j<i then j else i)) M:=rfl
theorem bf_max:bfD K .max2 [.int i,.int j] M Q=Q (.int (if j >i then j else i)) M:=rfl
theorem bf_list{d:D}:bfD K .list1 [d] M Q=∃xs,Z71 M d=some xs∧Q (.ref M.length) (M++[.lst xs]):=rfl
theorem bf_dict:bfD K .dict1 [.ref n] M Q=((∃xs,Zd M n=some xs∧Q (.ref M.length) (M++[.dct xs]))∨(∃ps:List (Key×D),Zg M n=some (Vu ps)∧ps.length<sizeLine∧Q (.ref M.length) (M++[.dct (V6 ps)]))):=rfl
theorem bf_int:bfD K .int1 [.bl p] M Q=Q (.int (if p then 1 else 0)) M:=rfl
theorem at2_xy{x y:D}{F:D→D→Prop}:at2 [x,y] F=F x y:=rfl
theorem onRef_r{F:Nat→Prop}:Jn (.ref n) F=F n:=rfl
theorem mt_append_r{d:D}:mtD .append (.ref n) [d] M Q=∃xs,Zi M n=some xs∧xs.length<sizeLine∧Q .non (M.set n (.lst (xs++[d]))):=rfl
theorem mt_get2_r{k z:D}:mtD .get2 (.ref n) [k,z] M Q=∃kvs y,Zd M n=some kvs∧keyD k=some y∧Q ((valD kvs y).getD z) M:=rfl
theorem mt_pop_r:mtD .pop0 (.ref n) [] M Q=∃xs d,Zi M n=some xs∧xs[xs.length - 1]?=some d∧Q d (M.set n (.lst xs.dropLast)):=rfl
theorem mk_append:mtK .append (.ref n) M=((Zg M n).isSome=true):=rfl
theorem mk_pop:mtK .pop0 (.ref n) M=((Zg M n).isSome=true):=rfl
theorem mk_get2:mtK .get2 (.ref n) M=((Zd M n).isSome=true):=rfl
theorem tg_one{k:Nat}{d:D}{σ:DEnv}{F:DEnv→Prop}:tgD [k] d σ F=F (σ.set k (some d)):=by cases d<;>rfl
theorem tg_two{k l:Nat}{d e:D}{σ:DEnv}{F:DEnv→Prop}:tgD [k,l] (.tup [d,e]) σ F=F ((σ.set k (some d)).set l (some e)):=by
 show([d,e].length=[k,l].length∧F _)=_
 simp
theorem it_r{R:Own→List D→Prop}:itD M (.ref n) R=∃xs,Zg M n=some xs∧R (.lst n) xs:=rfl
theorem it_t{R:Own→List D→Prop}:itD M (.tup xs) R=R .no xs:=rfl
theorem it_g{R:Own→List D→Prop}:itD M (.gtup xs) R=R .no xs:=rfl
theorem key_i:keyD (.int i)=some (.inl i):=rfl
theorem key_s:keyD (.str a)=some (.inr a):=rfl
theorem in_ss:inQ M (.str a) (.str b) B=B (!(Builtin.Str.occurrences b a 0 b.length 1).isEmpty):=rfl
end
theorem Xb{α:Type}{o:Option α}{x:α}(h:o=some x):o.isSome=true:=by rw[h];rfl
noncomputable abbrev vs4:List Value:=[.type "ValueError",.type "Exception",.type "BaseException",.type "object"]
theorem mro4{K:PySem.W.Frag}{C J:Addr}{nm q:Str}{N:Addr}{bs:List Value}{sn:List Str}{sub:List Value}{ab:Bool}{col:Option Bool}{dd:Option Addr}{k0 k1 k2 k3 k5:Option Value}{nw:String}
  (l:K.lookup C=some (excClassObj nm q C N bs (.ref J::vs4) true sn sub ab col dd k0 k1 k2 k3 k5 nw)):∃cd,PySem.W.clsIn K C=some cd∧cd.hasDict=true∧cd.mro=[.ref C,.ref J]++vs4:=by
 have e:PySem.W.clsIn K C=some {name:=nm,bases:=bs,mro:= .ref C::(.ref J::vs4),ns:=N,qualname:=q,hasDict:=true,slotNames:=sn,subclasses:=sub,abstract:=ab,collection:=col,hasDel:=false}:=by
  unfold PySem.W.clsIn
  rw[l]
 exact⟨_,e,rfl,rfl⟩
theorem Zg4{K:PySem.W.Frag}{C J f:Addr}{nm q:Str}{N:Addr}{bs:List Value}{sn:List Str}{sub:List Value}{ab:Bool}{col:Option Bool}{dd:Option Addr}{k0 k1 k2 k3 k5:Option Value}
  (l:K.lookup C=some (excClassObj nm q C N bs (.ref J::vs4) true sn sub ab col dd k0 k1 k2 k3 k5 "ValueError.__new__")) (hi:PySem.W.findIn K (.ref C) "__init__"=some (some (.ref f))) (hf:PySem.W.isFn K (.ref f)=true) (hk:PySem.W.keepIn K (.ref C)=true):ExcMk K C f where
 cls:=⟨nm,q,N,bs,_,true,sn,sub,ab,col,dd,k0,k1,k2,k3,k5,l,rfl,rfl,rfl,rfl⟩
 init:=hi
 fn:=hf
 kp:=hk
theorem Z96{K:PySem.W.Frag}{C J:Addr}{nm q:Str}{N:Addr}{bs:List Value}{sn:List Str}{sub:List Value}{ab:Bool}{col:Option Bool}{dd:Option Addr}{k0 k1 k2 k3 k5:Option Value}{nw:String}
  (l:K.lookup C=some (excClassObj nm q C N bs (.ref J::vs4) true sn sub ab col dd k0 k1 k2 k3 k5 nw)) (h1:PySem.W.findIn K (.ref C) "row"=some none) (h2:PySem.W.findIn K (.ref C) "__setattr__"=some (some (.builtin "object.__setattr__"))):ExcSet K C "row" where
 cls:=by
  obtain⟨cd,e1,e2,e3⟩:=mro4 l
  refine⟨cd,[.ref C,.ref J],e1,e2,e3,fun v hv=>?_⟩
  simp only[List.mem_cons,List.not_mem_nil,or_false] at hv
  rcases hv with rfl | rfl
  ·exact⟨_,rfl⟩
  ·exact⟨_,rfl⟩
 no:=h1
 set:=h2
noncomputable def Zj1(st:Stmt):Bool:=match Z4 st with
 | [.Assign [.Attribute (.Name a _) b _] (.Name d _) _]=>a=="self"&&b=="row"&&d=="row"
 | _=>false
theorem Bb{st:Stmt}(h:Zj1 st=true):∃p1 p2 p3 p4,Z4 st=[.Assign [.Attribute (.Name "self" p1) "row" p2] (.Name "row" p3) p4]:=by
 unfold Zj1 at h
 split at h
 ·rename_i a p1 b p2 d p3 p4 e
  simp only[Bool.and_eq_true,beq_iff_eq] at h
  obtain⟨⟨rfl,rfl⟩,rfl⟩:=h
  exact⟨_,_,_,_,e⟩
 ·cases h
theorem Zo2{P:Program}{w:World}{K:PySem.W.Frag}{mg:Str→Option Value}{base:Heap}{st:Stmt}{f:Addr}{name qual:Str}{dV kV doc pm cdv ct oc:Value}{an od:Option Addr}{osl:Array (Option Value)}
  (lk:K.lookup f=some ⟨oc,od,.func (PySem.W.fnOf name qual (Zf st) (Z4 st) (Z0 st) dV kV doc pm an cdv ct),osl⟩) (hcd:PySem.W.codeIn K cdv qual=true) (S:FnScope ["self","row"] ["self","row"] (Z0 st)) (hb:Zj1 st=true)
  (h1:(Z0 st).names.lookup ("self":Str)=some .local) (h2:(Z0 st).names.lookup ("row":Str)=some .local):
  FnOk P w K mg base CX0 1 f (PySem.W.fnOf name qual (Zf st) (Z4 st) (Z0 st) dV kV doc pm an cdv ct) ["self","row"] (Pp K):=by
 refine Zs1 lk hcd S (fun vs H Q E zz141=>by obtain⟨e,C,y,h,_⟩:=zz141;rw[h];rfl) fun A outer s H vs Q E hr hsp=>?_
 obtain⟨e,C,y,rfl,q1,q2,q3⟩:=hsp
 obtain⟨p1,p2,p3,p4,eb⟩:=Bb hb
 rw[eb]
 refine⟨_,C1 (Y01 (Z98 (i:=0) rfl (.inl h1)) (Z98 (i:=1) rfl (.inl h2)) rfl) Z34,?_⟩
 exact⟨y,rfl,.ref e,rfl,e,C,rfl,q1,q2,fun dx hdx=>q3 dx hdx⟩
theorem Prg.up{P:Program}{w:World}{K:PySem.W.Frag}{mg:Str→Option Value}{base:Heap}{c:Cfg}{FN GN BN:List Str}{lv lv':Nat}(Pr:Prg P w K mg base c FN GN BN lv)(h:lv≤lv'):Prg P w K mg base c FN GN BN lv' where
 hK:=Pr.hK
 fns:=fun m y sp e1 e2=>by
  obtain⟨kk,f,fd,ps,ds,dvs,dD,sp0,F,hk,r⟩:=Pr.fns m y sp e1 e2
  exact⟨kk,f,fd,ps,ds,dvs,dD,sp0,F,Nat.le_trans hk h,r⟩
 flen:=Pr.flen
 glb:=Pr.glb
 blt:=Pr.blt
theorem PrgR.none{P:Program}{w:World}{K:PySem.W.Frag}{mg:Str→Option Value}{base:Heap}{c:Cfg}{lv:Nat}:PrgR P w K mg base c [] lv:=fun _ h=>absurd h Bool.false_ne_true
theorem PrgR.one{P:Program}{w:World}{K:PySem.W.Frag}{mg:Str→Option Value}{base:Heap}{c:Cfg}{lv n:Nat}{B f:Addr}{fd:FuncData}(hn:c.G[n]?=some (.cls B))(h1:ExcMk K B f)(h2:FnOk P w K mg base CX0 1 f fd ["self","row"] (Pp K))(h3:2≤lv)(h4:Zq K fd ["self","row"] [.none])(h5:Zq K fd ["self","row"] [])(h6:ExcSet K B "row"):
  PrgR P w K mg base c [n] lv:=fun g hg C hC=>by
 have e:g=n:=by simpa using hg
 subst e
 rw[hn] at hC
 cases hC
 exact⟨1,f,fd,h1,h2,h3,h4,h5,h6⟩
def Rest(c:Cfg)(X:DX)(r:Ss)(R:DEnds)(σ:DEnv)(M:Z1):Prop:=tss c X r R σ M
theorem tss_nil{c:Cfg}{X:DX}{R:DEnds}{σ:DEnv}{M:Z1}:tss c X .nil R σ M=R.nx σ M:=rfl
theorem tss_cons{c:Cfg}{X:DX}{s:S}{r:Ss}{R:DEnds}{σ:DEnv}{M:Z1}:tss c X (.cons s r) R σ M=ts c X s {R with nx:=fun σ' M'=>Rest c X r R σ' M'} σ M:=rfl
theorem Yc{c:Cfg}{X:DX}{r:Ss}{R:DEnds}{σ:DEnv}{M:Z1}(h:tss c X r R σ M):Rest c X r R σ M:=h
theorem Y51{α:Type}{P:List α→Prop}(h:P [])(l:List α)(e:l.length=0):P l:=by
 cases l with
 | nil=>exact h
 | cons _ _=>cases e
theorem G4{α:Type}{n:Nat}{P:List α→Prop}(h:∀a l,l.length=n→P (a::l))(l:List α)(e:l.length=n+1):P l:=by
 cases l with
 | nil=>cases e
 | cons a r=>exact h a r (Nat.succ.inj e)
theorem S9{α:Type}{P:List α→Prop}(h:∀a,P [a]):∀l:List α,l.length=1→P l:=G4 fun a=>Y51 (h a)
theorem Xl{α:Type}{P:List α→Prop}(h:∀a b,P [a,b]):∀l:List α,l.length=2→P l:=G4 fun a=>S9 (P:=fun l=>P (a::l)) (h a)
theorem Vx{α:Type}{P:List α→Prop}(h:∀a b c,P [a,b,c]):∀l:List α,l.length=3→P l:=G4 fun a=>Xl (P:=fun l=>P (a::l)) (h a)
theorem Pc{α:Type}{P:List α→Prop}(h:∀a b c d,P [a,b,c,d]):∀l:List α,l.length=4→P l:=G4 fun a=>Vx (P:=fun l=>P (a::l)) (h a)
theorem Zx0{α:Type}{P:List α→Prop}(h:∀a b c d e,P [a,b,c,d,e]):∀l:List α,l.length=5→P l:=G4 fun a=>Pc (P:=fun l=>P (a::l)) (h a)
theorem Z22{α:Type}{P:α→Prop}:∀x∈([]:List α),P x:=fun _ h=>absurd h List.not_mem_nil
theorem all_cons{α:Type}{P:α→Prop}{a:α}{l:List α}(h:P a)(t:∀x∈l,P x):∀x∈a::l,P x:=fun x hx=>(List.mem_cons.mp hx).elim (fun e=>e ▸ h) (t x)
theorem Fy{K:PySem.W.Frag}{fd:FuncData}{ps:List Str}{n:Nat}(h:∀s:Shared,K.In s.heap→∀us:List Value,us.length=n→BindsTo s fd ⟨us,[]⟩ (ps.zip (us++[])))(e:ps.length=n):Zq K fd ps []:=fun s us KX hl=>h s KX us (by rw[List.append_nil,e] at hl;exact hl)
theorem Z68{K:PySem.W.Frag}{fd:FuncData}{ps:List Str}{d:Value}{n:Nat}(h:∀s:Shared,K.In s.heap→∀us:List Value,us.length=n→BindsTo s fd ⟨us,[]⟩ (ps.zip (us++[d])))(e:ps.length=n+1):Zq K fd ps [d]:=fun s us KX hl=>h s KX us (by rw[List.length_append,e] at hl;exact Nat.succ.inj hl)
end U
namespace GT
inductive Av (g:Nat→List Nat) (a:Nat):Nat→Prop
 | zero:a≠0→Av g a 0
 | step {x y:Nat}:Av g a x→y∈g x→y≠a→Av g a y
structure Num(g:Nat→List Nat)(n:Nat):Prop where
 pos:0<n
 cl:∀x,x<n→∀y∈g x,y<n
 up:∀k,k<n→k≠0→∃p,p<k∧k∈g p
structure Must(g:Nat→List Nat)(k m:Nat):Prop where
 ne:m≠k
 dom:¬Av g m k
 last:∀d,d≠k→¬Av g d k→d≤m
structure Wk(g:Nat→List Nat)(n:Nat)(B:List Nat)(T:List (Nat×Nat))(F:List Nat):Prop where
 bn:B.Nodup
 bl:∀x∈B,x<n
 z:0∈B
 mem:∀x,x∈B↔(∃s,(x,s)∈T)∨x∈F
 nd:(T.map (·.1)++F).Nodup
 first:∀p,T[0]?=some p→p.1=0
 chain:∀(i:Nat) p q,T[i]?=some p→T[i+1]?=some q→q.1∈g p.1
 steps:∀a s,(a,s)∈T→s≤(g a).length∧∀j y,j<s→(g a)[j]?=some y→y∈B
 fin:∀d∈F,∀y∈g d,y∈B
 par:∀(i:Nat) x,F[i]?=some x→x≠0→∃p,x∈g p∧p∈B∧p∉F.take (i+1)
theorem E2{α:Type}(T:List α)(p:α):(T++[p])[T.length]?=some p:=by simp
theorem R6{α:Type}{T:List α}{p q:α}{i:Nat}(h:T[i]?=some q):(T++[p])[i]?=some q:=by
 rw[List.getElem?_append_left (List.getElem?_eq_some_iff.mp h).1];exact h
theorem Xh{α:Type}{T:List α}{p q:α}{i:Nat}(h:(T++[p])[i]?=some q):T[i]?=some q∨(i=T.length∧q=p):=by
 by_cases hi:i<T.length
 ·rw[List.getElem?_append_left hi] at h;exact .inl h
 ·rw[List.getElem?_append_right (by omega)] at h
  have h':=(List.getElem?_eq_some_iff.mp h).1
  simp at h'
  have e:i - T.length=0:=by omega
  rw[e] at h
  simp at h
  exact .inr ⟨by omega,h.symm⟩
theorem Wk.open{g:Nat→List Nat}{n a s y:Nat}{B F:List Nat}{T:List (Nat×Nat)}(w:Wk g n B (T++[(a,s)]) F)(hy:(g a)[s]?=some y)(hn:y<n)(hb:y∉B):Wk g n (B++[y]) (T++[(a,s+1),(y,0)]) F where
 bn:=by
  rw[List.nodup_append]
  refine⟨w.bn,by simp,fun x hx z hz=>?_⟩
  simp at hz
  subst hz
  exact fun e=>hb (e ▸ hx)
 bl:=by
  intro x hx
  rcases List.mem_append.mp hx with h | h
  ·exact w.bl x h
  ·simp at h;omega
 z:=List.mem_append_left _ w.z
 mem:=by
  intro x
  rw[List.mem_append,w.mem x]
  simp only[List.mem_append,List.mem_singleton,List.mem_cons,Prod.mk.injEq,List.not_mem_nil,or_false]
  constructor
  ·rintro((⟨s',h | ⟨rfl,rfl⟩⟩ | h) | rfl)
   ·exact .inl ⟨s',.inl h⟩
   ·exact .inl ⟨s'+1,.inr (.inl ⟨rfl,rfl⟩)⟩
   ·exact .inr h
   ·exact .inl ⟨0,.inr (.inr ⟨rfl,rfl⟩)⟩
  ·rintro(⟨s',h | ⟨rfl,rfl⟩ | ⟨rfl,rfl⟩⟩ | h)
   ·exact .inl (.inl ⟨s',.inl h⟩)
   ·exact .inl (.inl ⟨s,.inr ⟨rfl,rfl⟩⟩)
   ·exact .inr rfl
   ·exact .inl (.inr h)
 nd:=by
  have h1:=w.nd
  have h2:y∉(T++[(a,s)]).map (·.1)++F:=by
   intro h
   apply hb
   rw[w.mem y]
   rcases List.mem_append.mp h with h | h
   ·obtain⟨⟨b,t⟩,hp,e⟩:=List.mem_map.mp h
    simp at e
    subst e
    exact .inl ⟨t,hp⟩
   ·exact .inr h
  have p:((T++[(a,s+1),(y,0)]).map (·.1)++F).Perm (y::((T++[(a,s)]).map (·.1)++F)):=by
   simp only[List.map_append,List.map_cons,List.map_nil,List.append_assoc,List.cons_append,List.nil_append]
   have q:=List.perm_middle (a:=y) (l₁:=List.map (fun x=>x.1) T++[a]) (l₂:=F)
   simpa only[List.append_assoc,List.cons_append,List.nil_append] using q
  exact p.nodup_iff.mpr (List.nodup_cons.mpr ⟨h2,h1⟩)
 first:=by
  intro p h
  have:T++[(a,s+1),(y,0)]=(T++[(a,s+1)])++[(y,0)]:=by simp
  rw[this] at h
  rcases Xh h with h | ⟨e,rfl⟩
  ·rcases Xh h with h | ⟨e,rfl⟩
   ·exact w.first p (R6 h)
   ·exact w.first (a,s) (by rw[e];exact E2 _ _)
  ·simp at e
 chain:=by
  intro i p q h1 h2
  have:T++[(a,s+1),(y,0)]=(T++[(a,s+1)])++[(y,0)]:=by simp
  rw[this] at h1 h2
  rcases Xh h2 with h2 | ⟨e,rfl⟩
  ·rcases Xh h1 with h1 | ⟨e1,rfl⟩
   ·rcases Xh h2 with h2 | ⟨e,rfl⟩
    ·rcases Xh h1 with h1 | ⟨e1,rfl⟩
     ·exact w.chain i p q (R6 h1) (R6 h2)
     ·have:=(List.getElem?_eq_some_iff.mp h2).1
      omega
    ·rcases Xh h1 with h1 | ⟨e1,rfl⟩
     ·exact w.chain i p (a,s) (R6 h1) (by rw[e];exact E2 _ _)
     ·omega
   ·have:=(List.getElem?_eq_some_iff.mp h2).1
    omega
  ·rcases Xh h1 with h1 | ⟨e1,rfl⟩
   ·rcases Xh h1 with h1 | ⟨e1,rfl⟩
    ·have:=(List.getElem?_eq_some_iff.mp h1).1
     simp at e
     omega
    ·exact List.mem_of_getElem? hy
   ·omega
 steps:=by
  intro b t h
  simp only[List.mem_append,List.mem_cons,List.not_mem_nil,or_false,Prod.mk.injEq] at h
  rcases h with h | ⟨rfl,rfl⟩ | ⟨rfl,rfl⟩
  ·obtain⟨h1,h2⟩:=w.steps b t (List.mem_append_left _ h)
   exact⟨h1,fun j z hj hz=>List.mem_append_left _ (h2 j z hj hz)⟩
  ·obtain⟨h1,h2⟩:=w.steps b s (by simp)
   refine⟨(List.getElem?_eq_some_iff.mp hy).1,fun j z hj hz=>?_⟩
   by_cases e:j=s
   ·subst e;rw[hy] at hz;cases hz;simp
   ·exact List.mem_append_left _ (h2 j z (by omega) hz)
  ·exact⟨Nat.zero_le _,fun j y h=>by omega⟩
 fin:=fun d h z hz=>List.mem_append_left _ (w.fin d h z hz)
 par:=by
  intro i x h hx
  obtain⟨p,h1,h2,h3⟩:=w.par i x h hx
  exact⟨p,h1,List.mem_append_left _ h2,h3⟩
structure Ord(g:Nat→List Nat)(n:Nat)(O:List Nat):Prop where
 nd:O.Nodup
 lt:∀x∈O,x<n
 z:O[0]?=some 0
 cl:∀x∈O,∀y∈g x,y∈O
 up:∀(k:Nat) x,O[k]?=some x→k≠0→∃(j:Nat) (p:Nat),j<k∧O[j]?=some p∧x∈g p
structure Fd(g:Nat→List Nat)(n a:Nat)(L:List Nat)(t:Nat):Prop where
 nd:L.Nodup
 z:L[0]?=some 0
 av:∀x∈L,Av g a x
 done:∀(i:Nat) x,i<t→L[i]?=some x→∀y∈g x,y=a∨y∈L
 le:t≤L.length
end GT
namespace ND
structure St where
 b:List Nat
 s:List (Nat×List Nat)
 d:List Nat
noncomputable def stp(g:Nat→List Nat):St→St
 | ⟨b,[],d⟩=>⟨b,[],d⟩
 | ⟨b,(x,[])::s,d⟩=>⟨b,s,d++[x]⟩
 | ⟨b,(x,t::r)::s,d⟩=>if t∈b then⟨b,(x,r)::s,d⟩ else⟨b++[t],(t,g t)::(x,r)::s,d⟩
noncomputable def itr(g:Nat→List Nat):Nat→St→St
 | 0,s=>s
 | k+1,s=>stp g (itr g k s)
def Ends(g:Nat→List Nat)(x:Nat)(d:List Nat):Prop:=∃k b,itr g k ⟨[x],[(x,g x)],[]⟩=⟨b,[],d⟩
noncomputable def mp(π:Nat→Nat)(s:St):St:=⟨s.b.map π,s.s.map fun p=>(π p.1,p.2.map π),s.d.map π⟩
structure In(S:Nat→Prop)(z:St):Prop where
 b:∀x∈z.b,S x
 s:∀p∈z.s,S p.1∧∀t∈p.2,S t
 d:∀x∈z.d,S x
theorem In.stp{g:Nat→List Nat}{S:Nat→Prop}(cl:∀x,S x→∀t∈g x,S t){s:St}(h:In S s):In S (stp g s):=by
 obtain⟨b,s,d⟩:=s
 cases s with
 | nil=>exact h
 | cons p s=>
  obtain⟨x,r⟩:=p
  have hx:=h.s (x,r) List.mem_cons_self
  cases r with
  | nil=>exact⟨h.b,fun p hp=>h.s p (List.mem_cons_of_mem _ hp),fun y hy=>(List.mem_append.mp hy).elim (h.d y) fun z=>by rw[List.mem_singleton] at z;subst z;exact hx.1⟩
  | cons t r=>
   show In S (if t∈b then _ else _)
   split
   ·refine⟨h.b,fun p hp=>?_,h.d⟩
    rcases List.mem_cons.mp hp with rfl | hp
    ·exact⟨hx.1,fun u hu=>hx.2 u (List.mem_cons_of_mem _ hu)⟩
    ·exact h.s p (List.mem_cons_of_mem _ hp)
   ·have ht:=hx.2 t List.mem_cons_self
    refine⟨fun y hy=>(List.mem_append.mp hy).elim (h.b y) fun z=>by rw[List.mem_singleton] at z;subst z;exact ht,fun p hp=>?_,h.d⟩
    rcases List.mem_cons.mp hp with rfl | hp
    ·exact⟨ht,cl t ht⟩
    ·rcases List.mem_cons.mp hp with rfl | hp
     ·exact⟨hx.1,fun u hu=>hx.2 u (List.mem_cons_of_mem _ hu)⟩
     ·exact h.s p (List.mem_cons_of_mem _ hp)
theorem Y33{g g':Nat→List Nat}{S:Nat→Prop}{π:Nat→Nat}(inj:∀x y,S x→S y→π x=π y→x=y)(hg:∀x,S x→g' (π x)=(g x).map π){s:St}(h:In S s):stp g' (mp π s)=mp π (stp g s):=by
 obtain⟨b,s,d⟩:=s
 cases s with
 | nil=>rfl
 | cons p s=>
  obtain⟨x,r⟩:=p
  have hx:=h.s (x,r) List.mem_cons_self
  cases r with
  | nil=>show St.mk (b.map π) _ (d.map π++[π x])=St.mk (b.map π) _ ((d++[x]).map π);rw[List.map_append];rfl
  | cons t r=>
   have ht:=hx.2 t List.mem_cons_self
   have e:π t∈b.map π↔t∈b:=by
    constructor
    ·intro z
     obtain⟨y,hy,e⟩:=List.mem_map.mp z
     rw[←inj y t (h.b y hy) ht e];exact hy
    ·exact fun z=>List.mem_map.mpr ⟨t,z,rfl⟩
   show(if π t∈b.map π then _ else _)=mp π (if t∈b then _ else _)
   by_cases hb:t∈b
   ·rw[if_pos (e.mpr hb),if_pos hb];rfl
   ·rw[if_neg (fun z=>hb (e.mp z)),if_neg hb]
    show St.mk (b.map π++[π t]) ((π t,g' (π t))::_) (d.map π)=St.mk ((b++[t]).map π) ((π t,(g t).map π)::_) (d.map π)
    rw[List.map_append,hg t ht];rfl
theorem Zm0{g g':Nat→List Nat}{S:Nat→Prop}{π:Nat→Nat}(cl:∀x,S x→∀t∈g x,S t)(inj:∀x y,S x→S y→π x=π y→x=y)(hg:∀x,S x→g' (π x)=(g x).map π){s:St}(h:In S s):∀k,itr g' k (mp π s)=mp π (itr g k s)∧In S (itr g k s)
 | 0=>⟨rfl,h⟩
 | k+1=>by
  obtain⟨h1,h2⟩:=Zm0 cl inj hg h k
  exact⟨by show stp g' (itr g' k (mp π s))=mp π (stp g (itr g k s));rw[h1,Y33 inj hg h2],h2.stp cl⟩
theorem Ends.map{g g':Nat→List Nat}{S:Nat→Prop}{π:Nat→Nat}{x:Nat}{d:List Nat}(cl:∀x,S x→∀t∈g x,S t)(inj:∀x y,S x→S y→π x=π y→x=y)(hg:∀x,S x→g' (π x)=(g x).map π)(hx:S x)(h:Ends g x d):Ends g' (π x) (d.map π):=by
 obtain⟨k,b,h⟩:=h
 have i0:In S ⟨[x],[(x,g x)],[]⟩:=⟨fun y hy=>by rw[List.mem_singleton] at hy;subst hy;exact hx,fun p hp=>by rw[List.mem_singleton] at hp;subst hp;exact⟨hx,cl x hx⟩,fun y hy=>by simp at hy⟩
 have:=(Zm0 cl inj hg i0 k).1
 rw[h] at this
 refine⟨k,b.map π,?_⟩
 rw[hg x hx]
 exact this
structure Ok(g:Nat→List Nat)(x:Nat)(s:St):Prop where
 nb:s.b.Nodup
 nd:(s.s.map (·.1)++s.d).Nodup
 eq:∀y,y∈s.b↔y∈s.s.map (·.1)∨y∈s.d
 cl:∀y∈s.d,∀t∈g y,t∈s.b
 op:∀p∈s.s,(∀t∈p.2,t∈g p.1)∧∀t∈g p.1,t∈p.2∨t∈s.b
 bot:s.s.getLast?.map (·.1)=some x∨(s.s=[]∧s.d.getLast?=some x)
theorem Ok.stp{g:Nat→List Nat}{x:Nat}{s:St}(h:Ok g x s):Ok g x (stp g s):=by
 obtain⟨b,s,d⟩:=s
 cases s with
 | nil=>exact h
 | cons p s=>
  obtain⟨y,r⟩:=p
  obtain⟨h1,h2,h3,h4,h5,h6⟩:=h
  simp only[List.map_cons] at h2 h3 h4 h5 h6
  cases r with
  | nil=>
   show Ok g x ⟨b,s,d++[y]⟩
   refine⟨h1,?_,fun z=>?_,fun z hz t ht=>?_,fun p hp=>h5 p (List.mem_cons_of_mem _ hp),?_⟩
   ·show(s.map (·.1)++(d++[y])).Nodup
    rw[←List.append_assoc]
    have h2':(y::(s.map (·.1)++d)).Nodup:=h2
    rw[List.nodup_cons] at h2'
    exact List.nodup_append.mpr ⟨h2'.2,by simp,fun a ha c hc=>by rw[List.mem_singleton] at hc;subst hc;exact fun e=>h2'.1 (e ▸ ha)⟩
   ·show z∈b↔z∈s.map (·.1)∨z∈d++[y]
    rw[h3 z]
    simp only[List.mem_cons,List.mem_append,List.not_mem_nil,or_false]
    constructor
    ·rintro((h | h) | h)
     ·exact .inr (.inr h)
     ·exact .inl h
     ·exact .inr (.inl h)
    ·rintro(h | h | h)
     ·exact .inl (.inr h)
     ·exact .inr h
     ·exact .inl (.inl h)
   ·rcases List.mem_append.mp hz with hz | hz
    ·exact h4 z hz t ht
    ·rw[List.mem_singleton] at hz
     subst hz
     exact((h5 (z,[]) List.mem_cons_self).2 t ht).resolve_left (by simp)
   ·cases s with
    | nil=>
     refine .inr ⟨rfl,?_⟩
     rcases h6 with h6 | ⟨h6,_⟩
     ·show(d++[y]).getLast?=some x
      rw[List.getLast?_append]
      simpa using h6
     ·cases h6
    | cons q s=>
     refine .inl ?_
     rcases h6 with h6 | ⟨h6,_⟩
     ·show(q::s).getLast?.map (·.1)=some x
      rw[List.getLast?_cons_cons] at h6
      exact h6
     ·cases h6
  | cons t r=>
   have hy:=h5 (y,t::r) List.mem_cons_self
   show Ok g x (if t∈b then⟨b,(y,r)::s,d⟩ else⟨b++[t],(t,g t)::(y,r)::s,d⟩)
   split
   ·rename_i hb
    refine⟨h1,h2,h3,h4,fun p hp=>?_,?_⟩
    ·rcases List.mem_cons.mp hp with rfl | hp
     ·refine⟨fun u hu=>hy.1 u (List.mem_cons_of_mem _ hu),fun u hu=>?_⟩
      rcases hy.2 u hu with z | z
      ·rcases List.mem_cons.mp z with rfl | z
       ·exact .inr hb
       ·exact .inl z
      ·exact .inr z
     ·exact h5 p (List.mem_cons_of_mem _ hp)
    ·rcases h6 with h6 | ⟨h6,_⟩
     ·refine .inl ?_
      cases s with
      | nil=>exact h6
      | cons q s=>rw[List.getLast?_cons_cons] at h6 ⊢;exact h6
     ·cases h6
   ·rename_i hb
    have hn:¬(t=y∨t∈s.map (·.1))∧t∉d:=by
     have:=fun z=>hb ((h3 t).mpr z)
     simp only[List.mem_cons] at this
     exact⟨fun z=>this (.inl z),fun z=>this (.inr z)⟩
    refine⟨?_,?_,fun z=>?_,fun z hz u hu=>List.mem_append_left _ (h4 z hz u hu),fun p hp=>?_,?_⟩
    ·exact List.nodup_append.mpr ⟨h1,by simp,fun a ha c hc=>by rw[List.mem_singleton] at hc;subst hc;exact fun e=>hb (e ▸ ha)⟩
    ·show(t::(y::s.map (·.1)++d)).Nodup
     rw[List.nodup_cons]
     refine⟨fun z=>?_,h2⟩
     rcases List.mem_append.mp z with z | z
     ·exact hn.1 (List.mem_cons.mp z)
     ·exact hn.2 z
    ·show z∈b++[t]↔z∈t::y::s.map (·.1)∨z∈d
     rw[List.mem_append,h3 z,List.mem_singleton,List.mem_cons (a:=z) (b:=t)]
     constructor
     ·rintro((h | h) | h)
      ·exact .inl (.inr h)
      ·exact .inr h
      ·exact .inl (.inl h)
     ·rintro((h | h) | h)
      ·exact .inr h
      ·exact .inl (.inl h)
      ·exact .inl (.inr h)
    ·rcases List.mem_cons.mp hp with rfl | hp
     ·exact⟨fun u hu=>hu,fun u hu=> .inl hu⟩
     ·rcases List.mem_cons.mp hp with rfl | hp
      ·refine⟨fun u hu=>hy.1 u (List.mem_cons_of_mem _ hu),fun u hu=>?_⟩
       rcases hy.2 u hu with z | z
       ·rcases List.mem_cons.mp z with rfl | z
        ·exact .inr (List.mem_append_right _ (by simp))
        ·exact .inl z
       ·exact .inr (List.mem_append_left _ z)
      ·obtain⟨a1,a2⟩:=h5 p (List.mem_cons_of_mem _ hp)
       exact⟨a1,fun u hu=>(a2 u hu).imp id (List.mem_append_left _)⟩
    ·rcases h6 with h6 | ⟨h6,_⟩
     ·refine .inl ?_
      rw[List.getLast?_cons_cons]
      cases s with
      | nil=>exact h6
      | cons q s=>rw[List.getLast?_cons_cons] at h6 ⊢;exact h6
     ·cases h6
theorem Ok.itr{g:Nat→List Nat}{x:Nat}{s:St}(h:Ok g x s):∀k,Ok g x (itr g k s)
 | 0=>h
 | k+1=>(Ok.itr h k).stp
theorem Qa(N:Nat)(l:List Nat)(nd:l.Nodup)(h:∀x∈l,x<N):l.length≤N:=by
 have:l.length≤(List.range N).length:=List.Nodup.length_le_of_subset nd (fun x hx=>List.mem_range.mpr (h x hx))
 simpa using this
end ND
namespace LN
inductive Orb (J:Nat→Option Nat):Nat→Nat→Prop
 | refl (p:Nat):Orb J p p
 | step {p q r:Nat}:J p=some q→Orb J q r→Orb J p r
theorem Orb.trans{J:Nat→Option Nat}{p q r:Nat}(h:Orb J p q)(g:Orb J q r):Orb J p r:=by
 induction h with
 | refl _=>exact g
 | step e _ ih=>exact .step e (ih g)
def Ln(J:Nat→Option Nat)(n:Nat)(m:Nat→Option Nat):Prop:=∀p g,m p=some g→p<n∧(J p=none→g=p)∧(∀q,J p=some q→m q=some g)∧Orb J p g
def Lk(J:Nat→Option Nat):Nat→List Nat→Nat→Prop
 | s,[],p=>s=p
 | s,x::r,p=>s=x∧∃q,J x=some q∧Lk J q r p
theorem Lk.snoc{J:Nat→Option Nat}{p q:Nat}(e:J p=some q):∀{s:Nat} {P:List Nat},Lk J s P p→Lk J s (P++[p]) q
 | s,[],h=>⟨h,q,e,rfl⟩
 | s,x::r,⟨h1,t,h2,h3⟩=>⟨h1,t,h2,Lk.snoc e h3⟩
theorem Lk.next{J:Nat→Option Nat}:∀{s p:Nat} {P:List Nat},Lk J s P p→∀x∈P,∃q,J x=some q∧(q∈P∨q=p)∧Orb J x p
 | s,p,[],h,x,hx=>by cases hx
 | s,p,y::r,h,x,hx=>by
  obtain⟨rfl,t,h2,h3⟩:=h
  have ho:Orb J t p:=by
   cases r with
   | nil=>rw[show t=p from h3];exact .refl _
   | cons z r=>
    obtain⟨_,_,_,h⟩:=Lk.next h3 z List.mem_cons_self
    rw[h3.1];exact h
  rcases List.mem_cons.mp hx with rfl | hx
  ·refine⟨t,h2,?_,.step h2 ho⟩
   cases r with
   | nil=>exact .inr h3
   | cons z r=>exact .inl (List.mem_cons_of_mem _ (by rw[h3.1];exact List.mem_cons_self))
  ·obtain⟨q,a1,a2,a3⟩:=Lk.next h3 x hx
   exact⟨q,a1,a2.imp (List.mem_cons_of_mem _) id,a3⟩
noncomputable def land(m:Nat→Option Nat)(P:List Nat)(p g:Nat):Nat→Option Nat:=fun x=>if x∈P then some g else if x=p then some g else m x
theorem Ln.land{J:Nat→Option Nat}{n s p:Nat}{m:Nat→Option Nat}{P:List Nat}(h:Ln J n m)(k:Lk J s P p)(hn:∀x∈P,x<n∧m x=none)(hp:p<n)
  (stop:(m p).isSome=true∨p∈P∨J p=none):Ln J n (land m P p ((m p).getD p))∧(land m P p ((m p).getD p) s).isSome=true∧∀x,(m x).isSome=true→(land m P p ((m p).getD p) x).isSome=true:=by
 have og:Orb J p ((m p).getD p):=by
  cases e:m p with
  | none=>exact .refl _
  | some g=>exact(h p g e).2.2.2
 refine⟨fun x g hx=>?_,?_,fun x hx=>?_⟩
 ·unfold LN.land at hx
  split at hx
  ·rename_i hP
   cases hx
   obtain⟨q,a1,a2,a3⟩:=k.next x hP
   refine⟨(hn x hP).1,fun z=>(by rw[a1] at z;cases z),fun q' hq=>?_,a3.trans og⟩
   rw[a1] at hq
   cases hq
   unfold LN.land
   rcases a2 with a2 | a2
   ·rw[if_pos a2]
   ·split
    ·rfl
    ·first | rfl | rw[if_pos a2]
  ·rename_i hP
   split at hx
   ·rename_i ex
    subst ex
    cases hx
    refine⟨hp,fun z=>?_,fun q hq=>?_,og⟩
    ·cases e:m x with
     | none=>rfl
     | some g=>exact(h x g e).2.1 z
    ·cases e:m x with
     | none=>
      rcases stop with z | z | z
      ·rw[e] at z;cases z
      ·exact absurd z hP
      ·rw[hq] at z;cases z
     | some g=>
      have:=(h x g e).2.2.1 q hq
      unfold LN.land
      show(if q∈P then some g else if q=x then some g else m q)=some g
      split
      ·rfl
      ·split
       ·rfl
       ·exact this
   ·rename_i ex
    obtain⟨b1,b2,b3,b4⟩:=h x g hx
    refine⟨b1,b2,fun q hq=>?_,b4⟩
    have hm:=b3 q hq
    unfold LN.land
    split
    ·rename_i hqP
     rw[(hn q hqP).2] at hm
     cases hm
    ·split
     ·rename_i eq
      subst eq
      rw[hm];rfl
     ·exact hm
 ·unfold LN.land
  cases P with
  | nil=>rw[if_neg (by simp),if_pos (show s=p from k)];rfl
  | cons y r=>rw[if_pos (by rw[k.1];exact List.mem_cons_self)];rfl
 ·unfold LN.land
  split
  ·rfl
  ·split
   ·rfl
   ·exact hx
end LN
namespace K09
open PySem PySem.Spec PyProof.Rows L2 L3 U
noncomputable def top(i:Nat):Stmt:=PySem.Challenge.pw_unjump_k09_whole_run_goes_on.main.body.getD i (.Pass ⟨0,0,0,0⟩)
noncomputable def FN:List Str:="quotient"::"rest"::"made"::"holds"::"worth"::"deed_of_sum"::"deed_of_test"::"behind"::"deed_of"::"run_from"::"landings"::"linked"::"run"::"_law_draws"::"_law_next"::"_law_names"::"_law_great"::"_law_operand"::"_law_row"::"_law_rows"::"_law_memory"::"_law_alike"::"_law_same_memory"::"_law_worth"::"_law_sum_fits"::"_law_truth"::"_law_deed_fits"::"_law_come_to"::"_law_walk"::"_law_word"::"_law_kinds"::"law"::"run"::[]
noncomputable def GN:List Str:=["JumpError","ByNought"]
noncomputable def BN:List Str:=["isinstance","str","len","dict","range","enumerate","list","max","min","tuple","int","bool"]
noncomputable abbrev X0:Stmt:=top 5
noncomputable def Vf:List Str:=["one","other"]
theorem G7:FnScope Vf ["one","other"] (Z0 X0):=⟨rfl,rfl,rfl,by decide+kernel,rfl,by decide+kernel,by decide+kernel⟩
noncomputable def S8:Ss:=
 (.cons (.ret (.bin .fdiv (.var 0) (.var 1)))
 .nil)
noncomputable def b_quotient:Ss:=
 (.cons (.ite (.cmp .eq (.var 1) (.int 0)) (.cons (.raise 1 .nil)
 .nil) .nil)
 S8)
theorem Br:Y8 (ck1 [1] Vf X0 FN GN BN) b_quotient (Z4 X0)=true:=by decide+kernel
noncomputable abbrev Sm:Stmt:=top 6
noncomputable def Fe:List Str:=["one","other"]
theorem Zr1:FnScope Fe ["one","other"] (Z0 Sm):=⟨rfl,rfl,rfl,by decide+kernel,rfl,by decide+kernel,by decide+kernel⟩
noncomputable def Fw:Ss:=
 (.cons (.ret (.bin .mod (.var 0) (.var 1)))
 .nil)
noncomputable def b_rest:Ss:=
 (.cons (.ite (.cmp .eq (.var 1) (.int 0)) (.cons (.raise 1 .nil)
 .nil) .nil)
 Fw)
theorem Y48:Y8 (ck1 [1] Fe Sm FN GN BN) b_rest (Z4 Sm)=true:=by decide+kernel
noncomputable abbrev Sn:Stmt:=top 4
noncomputable def Ew:List Str:=["sign","one","other"]
theorem Zp9:FnScope Ew ["sign","one","other"] (Z0 Sn):=⟨rfl,rfl,rfl,by decide+kernel,rfl,by decide+kernel,by decide+kernel⟩
noncomputable def Ee:Ss:=
 (.cons (.ret (.bin .bxor (.var 1) (.var 2)))
 .nil)
noncomputable def Ea:Ss:=
 (.cons (.ite (.cmp .eq (.var 0) (.str "&")) (.cons (.ret (.bin .band (.var 1) (.var 2)))
 .nil) .nil)
 Ee)
noncomputable def Fj:Ss:=
 (.cons (.ite (.cmp .eq (.var 0) (.str "rest")) (.cons (.ret (.call 1 (.cons (.var 1) (.cons (.var 2) .nil))))
 .nil) .nil)
 Ea)
noncomputable def Fg:Ss:=
 (.cons (.ite (.cmp .eq (.var 0) (.str "/")) (.cons (.ret (.call 0 (.cons (.var 1) (.cons (.var 2) .nil))))
 .nil) .nil)
 Fj)
noncomputable def Er:Ss:=
 (.cons (.ite (.cmp .eq (.var 0) (.str "-")) (.cons (.ret (.bin .sub (.var 1) (.var 2)))
 .nil) .nil)
 Fg)
noncomputable def b_made:Ss:=
 (.cons (.ite (.cmp .eq (.var 0) (.str "+")) (.cons (.ret (.bin .add (.var 1) (.var 2)))
 .nil) .nil)
 Er)
theorem Y08:Y8 (ck1 [] Ew Sn FN GN BN) b_made (Z4 Sn)=true:=by decide+kernel
noncomputable abbrev V4:Stmt:=top 7
noncomputable def Od:List Str:=["sign","one","other"]
theorem Zj8:FnScope Od ["sign","one","other"] (Z0 V4):=⟨rfl,rfl,rfl,by decide+kernel,rfl,by decide+kernel,by decide+kernel⟩
noncomputable def Nu:Ss:=
 (.cons (.ret (.cmp .eq (.var 1) (.var 2)))
 .nil)
noncomputable def b_holds:Ss:=
 (.cons (.ite (.cmp .eq (.var 0) (.str "<")) (.cons (.ret (.cmp .lt (.var 1) (.var 2)))
 .nil) .nil)
 Nu)
theorem Zt6:Y8 (ck0 Od V4 FN GN BN) b_holds (Z4 V4)=true:=by decide+kernel
noncomputable abbrev Wx:Stmt:=top 8
noncomputable def Os:List Str:=["operand","memory"]
theorem Zb0:FnScope Os ["operand","memory"] (Z0 Wx):=⟨rfl,rfl,rfl,by decide+kernel,rfl,by decide+kernel,by decide+kernel⟩
noncomputable def Jk:Ss:=
 (.cons (.ret (.var 0))
 .nil)
noncomputable def b_worth:Ss:=
 (.cons (.ite (.bf .isinst (.cons (.var 0) (.cons (.ty .str) .nil))) (.cons (.ret (.mt .get2 (.var 1) (.cons (.var 0) (.cons (.int 0) .nil))))
 .nil) .nil)
 Jk)
theorem Zu8:Y8 (ck0 Os Wx FN GN BN) b_worth (Z4 Wx)=true:=by decide+kernel
noncomputable abbrev Y9:Stmt:=top 9
noncomputable def Xg:List Str:=["name","one","sign","other","memory","a","b"]
theorem Qn:FnScope Xg ["name","one","sign","other","memory"] (Z0 Y9):=⟨rfl,rfl,rfl,by decide+kernel,rfl,by decide+kernel,by decide+kernel⟩
noncomputable def b_deed_of_sum:Ss:=
 (.cons (.set [5] (.call 4 (.cons (.var 1) (.cons (.var 4) .nil))))
 (.cons (.set [6] (.call 4 (.cons (.var 3) (.cons (.var 4) .nil))))
 (.cons (.ret (.tup (.cons (.str "sum") (.cons (.var 0) (.cons (.var 5) (.cons (.var 2) (.cons (.var 6) (.cons (.call 2 (.cons (.var 2) (.cons (.var 5) (.cons (.var 6) .nil)))) .nil))))))))
 .nil)))
theorem O6:Y8 (ck1 [] Xg Y9 FN GN BN) b_deed_of_sum (Z4 Y9)=true:=by decide+kernel
noncomputable abbrev Zx:Stmt:=top 10
noncomputable def X8:List Str:=["one","sign","other","memory","a","b"]
theorem Rt:FnScope X8 ["one","sign","other","memory"] (Z0 Zx):=⟨rfl,rfl,rfl,by decide+kernel,rfl,by decide+kernel,by decide+kernel⟩
noncomputable def b_deed_of_test:Ss:=
 (.cons (.set [4] (.call 4 (.cons (.var 0) (.cons (.var 3) .nil))))
 (.cons (.set [5] (.call 4 (.cons (.var 2) (.cons (.var 3) .nil))))
 (.cons (.ret (.tup (.cons (.str "test") (.cons (.var 4) (.cons (.var 1) (.cons (.var 5) (.cons (.call 3 (.cons (.var 1) (.cons (.var 4) (.cons (.var 5) .nil)))) .nil)))))))
 .nil)))
theorem Qs:Y8 (ck0 X8 Zx FN GN BN) b_deed_of_test (Z4 Zx)=true:=by decide+kernel
noncomputable abbrev Xn:Stmt:=top 14
noncomputable def Sr:List Str:=["node","deed","memory"]
theorem Z17:FnScope Sr ["node","deed","memory"] (Z0 Xn):=⟨rfl,rfl,rfl,by decide+kernel,rfl,by decide+kernel,by decide+kernel⟩
noncomputable def O0:Ss:=
 (.cons (.ret (.ife (.ix (.var 1) (.int 4)) (.ix (.var 0) (.int 4)) (.ix (.var 0) (.int 5))))
 .nil)
noncomputable def b_behind:Ss:=
 (.cons (.ite (.cmp .eq (.ix (.var 0) (.int 0)) (.str "sum")) (.cons (.put (.var 2) (.ix (.var 0) (.int 1)) (.ix (.var 1) (.int 5)))
 (.cons (.ret (.ix (.var 0) (.int 5)))
 .nil)) .nil)
 O0)
theorem Zd3:Y8 (ck0 Sr Xn FN GN BN) b_behind (Z4 Xn)=true:=by decide+kernel
noncomputable abbrev Xa:Stmt:=top 13
noncomputable def T4:List Str:=["node","memory"]
theorem Cg:FnScope T4 ["node","memory"] (Z0 Xa):=⟨rfl,rfl,rfl,by decide+kernel,rfl,by decide+kernel,by decide+kernel⟩
noncomputable def Qi:Ss:=
 (.cons (.ret (.call 6 (.cons (.ix (.var 0) (.int 1)) (.cons (.ix (.var 0) (.int 2)) (.cons (.ix (.var 0) (.int 3)) (.cons (.var 1) .nil))))))
 .nil)
noncomputable def b_deed_of:Ss:=
 (.cons (.ite (.cmp .eq (.ix (.var 0) (.int 0)) (.str "sum")) (.cons (.ret (.call 5 (.cons (.ix (.var 0) (.int 1)) (.cons (.ix (.var 0) (.int 2)) (.cons (.ix (.var 0) (.int 3)) (.cons (.ix (.var 0) (.int 4)) (.cons (.var 1) .nil)))))))
 .nil) .nil)
 Qi)
theorem Z52:Y8 (ck1 [] T4 Xa FN GN BN) b_deed_of (Z4 Xa)=true:=by decide+kernel
noncomputable abbrev Yv:Stmt:=top 12
noncomputable def Ve:List Str:=["nodes","start","memory","most","held","deeds","place","deed","word"]
theorem Ge:FnScope Ve ["nodes","start","memory","most"] (Z0 Yv):=⟨rfl,rfl,rfl,by decide+kernel,rfl,by decide+kernel,by decide+kernel⟩
noncomputable def V0:Ss:=
 (.cons (.set [8] (.ife (.cmp .eq (.ix (.ix (.var 0) (.var 6)) (.int 0)) (.str "end")) (.str "end") (.str "on")))
 (.cons (.ret (.tup (.cons (.var 5) (.cons (.var 8) (.cons (.var 4) .nil)))))
 .nil))
noncomputable def Sk:Ss:=
 (.cons (.expr (.mt .append (.var 5) (.cons (.var 7) .nil)))
 (.cons (.set [6] (.call 7 (.cons (.ix (.var 0) (.var 6)) (.cons (.var 7) (.cons (.var 4) .nil)))))
 .nil))
noncomputable def Si:Ss:=
 (.cons (.tryN (.set 7) 8 (.cons (.ix (.var 0) (.var 6)) (.cons (.var 4) .nil)) 1 (.cons (.ret (.tup (.cons (.var 5) (.cons (.str "fault") (.cons (.var 4) .nil)))))
 .nil))
 Sk)
noncomputable def b_run_from:Ss:=
 (.cons (.set [4] (.bf .dict1 (.cons (.var 2) .nil)))
 (.cons (.set [5] (.lst .nil))
 (.cons (.set [6] (.var 1))
 (.cons (.while_ (.bop true (.cons (.cmp .isin (.ix (.ix (.var 0) (.var 6)) (.int 0)) (.tup (.cons (.str "sum") (.cons (.str "test") .nil)))) (.cons (.cmp .lt (.bf .len (.cons (.var 5) .nil)) (.var 3)) .nil))) Si)
 V0))))
theorem B9:Y8 (ck0 Ve Yv FN GN BN) b_run_from (Z4 Yv)=true:=by decide+kernel
noncomputable abbrev Yx:Stmt:=top 17
noncomputable def Vj:List Str:=["rows","places","landed","start","passed","place","goal","jump"]
theorem Gr:FnScope Vj ["rows","places"] (Z0 Yx):=⟨rfl,rfl,rfl,by decide+kernel,rfl,by decide+kernel,by decide+kernel⟩
noncomputable def Sj:Ss:=
 (.cons (.ret (.var 2))
 .nil)
noncomputable def Sh:Ss:=
 (.cons (.put (.var 2) (.var 7) (.var 6))
 .nil)
noncomputable def Wv:Ss:=
 (.cons (.set [6] (.mt .get2 (.var 2) (.cons (.var 5) (.cons (.var 5) .nil))))
 (.cons (.put (.var 2) (.var 5) (.var 6))
 (.cons (.forK [7] (.var 4) Sh)
 .nil)))
noncomputable def S7:Ss:=
 (.cons (.put (.var 4) (.var 5) (.bl true))
 (.cons (.set [5] (.ix (.var 1) (.ix (.ix (.var 0) (.var 5)) (.int 2))))
 .nil))
noncomputable def Sd:Ss:=
 (.cons (.set [4] .dict0)
 (.cons (.set [5] (.var 3))
 (.cons (.while_ (.bop true (.cons (.cmp .notin (.var 5) (.var 2)) (.cons (.cmp .notin (.var 5) (.var 4)) (.cons (.cmp .eq (.ix (.ix (.var 0) (.var 5)) (.int 1)) (.str "jump")) .nil)))) S7)
 Wv)))
noncomputable def b_landings:Ss:=
 (.cons (.set [2] .dict0)
 (.cons (.for_ [3] (.rng1 (.bf .len (.cons (.var 0) .nil))) Sd)
 Sj))
theorem Ct:Y8 (ck0 Vj Yx FN GN BN) b_landings (Z4 Yx)=true:=by decide+kernel
noncomputable abbrev W0:Stmt:=top 16
noncomputable def Rf:List Str:=["rows","places","landed","nodes","place","row"]
theorem Z75:FnScope Rf ["rows"] (Z0 W0):=⟨rfl,rfl,rfl,by decide+kernel,rfl,by decide+kernel,by decide+kernel⟩
noncomputable def Pq:Ss:=
 (.cons (.ret (.tup (.cons (.var 3) (.cons (.ix (.var 2) (.int 0)) .nil))))
 .nil)
noncomputable def Po:Ss:=
 (.cons (.ite (.cmp .eq (.ix (.var 5) (.int 1)) (.str "sum")) (.cons (.expr (.mt .append (.var 3) (.cons (.bin .add (.sl (.var 5) (.yes (.int 1)) .no) (.tup (.cons (.ix (.var 2) (.bin .add (.var 4) (.int 1))) .nil))) .nil)))
 .nil) (.cons (.ite (.cmp .eq (.ix (.var 5) (.int 1)) (.str "test")) (.cons (.expr (.mt .append (.var 3) (.cons (.bin .add (.sl (.var 5) (.yes (.int 1)) (.yes (.int 5))) (.tup (.cons (.ix (.var 2) (.ix (.var 1) (.ix (.var 5) (.int 5)))) (.cons (.ix (.var 2) (.bin .add (.var 4) (.int 1))) .nil)))) .nil)))
 .nil) (.cons (.ite (.cmp .eq (.ix (.var 5) (.int 1)) (.str "end")) (.cons (.expr (.mt .append (.var 3) (.cons (.tup (.cons (.str "end") .nil)) .nil)))
 .nil) (.cons (.expr (.mt .append (.var 3) (.cons (.tup (.cons (.str "spin") .nil)) .nil)))
 .nil))
 .nil))
 .nil))
 .nil)
noncomputable def b_linked:Ss:=
 (.cons (.set [1] (.bf .dict1 (.cons (.comp ["place","row"] [none,none] [0,1] (.enm (.var 0)) .no (.tup (.cons (.ix (.var 1) (.int 0)) (.cons (.var 0) .nil)))) .nil)))
 (.cons (.set [2] (.call 10 (.cons (.var 0) (.cons (.var 1) .nil))))
 (.cons (.set [3] (.lst .nil))
 (.cons (.for_ [4,5] (.enm (.var 0)) Po)
 Pq))))
theorem Zh8:Y8 (ck0 Rf W0 FN GN BN) b_linked (Z4 W0)=true:=by decide+kernel
noncomputable abbrev Ja:Stmt:=top 19
noncomputable def Ze6:List Str:=["rows","memory","most","nodes","start"]
theorem Y40:FnScope Ze6 ["rows","memory","most"] (Z0 Ja):=⟨rfl,rfl,rfl,by decide+kernel,rfl,by decide+kernel,by decide+kernel⟩
noncomputable def b_run:Ss:=
 (.cons (.set [3,4] (.call 11 (.cons (.var 0) .nil)))
 (.cons (.ret (.call 9 (.cons (.var 3) (.cons (.var 4) (.cons (.var 1) (.cons (.var 2) .nil))))))
 .nil))
theorem Y81:Y8 (ck0 Ze6 Ja FN GN BN) b_run (Z4 Ja)=true:=by decide+kernel
noncomputable abbrev Xv:Stmt:=top 21
noncomputable def R9:List Str:=["_law_script","_law_cells","_law_by_digits","_law_left","_law_found","_law_k","_law_at","_law_number"]
theorem Z08:FnScope R9 ["_law_script"] (Z0 Xv):=⟨rfl,rfl,rfl,by decide+kernel,rfl,by decide+kernel,by decide+kernel⟩
noncomputable def O5:Ss:=
 (.cons (.ret (.rev (.var 4)))
 .nil)
noncomputable def Vi:Ss:=
 (.cons (.expr (.mt .append (.var 4) (.cons (.var 7) .nil)))
 .nil)
noncomputable def Pw:Ss:=
 (.cons (.set [6] (.bin .mod (.var 5) (.bf .len (.cons (.var 1) .nil))))
 (.cons (.set [7] (.bin .mod (.ix (.var 3) (.var 6)) (.int 2147483629)))
 (.cons (.ite (.bop true (.cons (.var 2) (.cons (.cmp .notin (.ix (.var 3) (.var 6)) (.lst (.cons (.int 0) (.cons (.neg (.int 1)) .nil)))) .nil))) (.cons (.put (.var 3) (.var 6) (.bin .fdiv (.ix (.var 3) (.var 6)) (.int 2147483629)))
 .nil) (.cons (.set [7] (.bin .mod (.bin .add (.bin .add (.bin .mul (.bin .mod (.ix (.var 1) (.var 6)) (.int 2147483629)) (.int 48271)) (.bin .mul (.bin .mul (.int 7919) (.var 5)) (.var 5))) (.int 104729)) (.int 2147483647)))
 (.cons (.set [7] (.bin .mod (.bin .mul (.var 7) (.var 7)) (.int 2147483629)))
 (.cons (.set [7] (.bin .mod (.bin .mul (.bin .mod (.bin .add (.bin .mul (.var 7) (.int 69621)) (.bin .mul (.int 3571) (.var 5))) (.int 2147483563)) (.var 7)) (.int 2147483629)))
 .nil))))
 Vi)))
noncomputable def b_Ldraws:Ss:=
 (.cons (.set [1] (.sl (.bin .add (.bf .list1 (.cons (.sl (.var 0) .no (.yes (.int 63))) .nil)) (.lst (.cons (.int 0) .nil))) .no (.yes (.bf .max2 (.cons (.int 1) (.cons (.bf .min2 (.cons (.bf .len (.cons (.var 0) .nil)) (.cons (.int 63) .nil))) .nil))))))
 (.cons (.set [2] (.cmp .eq (.bin .mod (.ix (.var 1) (.int 0)) (.int 2)) (.int 1)))
 (.cons (.put (.var 1) (.int 0) (.bin .fdiv (.ix (.var 1) (.int 0)) (.int 2)))
 (.cons (.set [3] (.bf .list1 (.cons (.var 1) .nil)))
 (.cons (.set [4] (.lst .nil))
 (.cons (.for_ [5] (.rng1 (.int 900)) Pw)
 O5))))))
theorem Zh0:Y8 (ck0 R9 Xv FN GN BN) b_Ldraws (Z4 Xv)=true:=by decide+kernel
noncomputable abbrev Wu:Stmt:=top 22
noncomputable def Oi:List Str:=["_law_drawn"]
theorem Zc8:FnScope Oi ["_law_drawn"] (Z0 Wu):=⟨rfl,rfl,rfl,by decide+kernel,rfl,by decide+kernel,by decide+kernel⟩
noncomputable def N3:Ss:=
 (.cons (.ret (.mt .pop0 (.var 0) .nil))
 .nil)
noncomputable def b_Lnext:Ss:=
 (.cons (.ite (.cmp .eq (.var 0) (.lst .nil)) (.cons (.ret (.int 0))
 .nil) .nil)
 N3)
theorem Zw0:Y8 (ck0 Oi Wu FN GN BN) b_Lnext (Z4 Wu)=true:=by decide+kernel
noncomputable abbrev W1:Stmt:=top 23
noncomputable def Oa:List Str:=["_law_number","_law_size","_law_at","_law_signs","_law_names_here","_law_k","_law_sign"]
theorem Z90:FnScope Oa ["_law_number"] (Z0 W1):=⟨rfl,rfl,rfl,by decide+kernel,rfl,by decide+kernel,by decide+kernel⟩
noncomputable def Qu:Ss:=
 (.cons (.ret (.var 4))
 .nil)
noncomputable def B7:Ss:=
 (.cons (.set [6] (.ix (.var 3) (.bin .mod (.bin .add (.bin .fdiv (.var 0) (.int 64)) (.bin .mul (.int 7) (.var 5))) (.bf .len (.cons (.var 3) .nil)))))
 (.cons (.expr (.mt .append (.var 4) (.cons (.bin .add (.bin .add (.sl (.str "v7w8x9yz") .no (.yes (.var 2))) (.var 6)) (.sl (.str "v7w8x9yz") (.yes (.bin .add (.var 2) (.int 1))) (.yes (.var 1)))) .nil)))
 .nil))
noncomputable def Tq:Ss:=
 (.cons (.set [4] (.lst .nil))
 (.cons (.for_ [5] (.rng1 (.int 4)) B7)
 Qu))
noncomputable def b_Lnames:Ss:=
 (.cons (.set [1] (.bin .add (.int 1) (.bin .mod (.var 0) (.int 8))))
 (.cons (.set [2] (.bin .mod (.bin .fdiv (.var 0) (.int 8)) (.var 1)))
 (.cons (.set [3] (.str "abcdefghijklmnopqrstuvwxyz0123456789"))
 (.cons (.ite (.cmp .eq (.var 2) (.int 0)) (.cons (.set [3] (.sl (.var 3) .no (.yes (.int 26))))
 .nil) .nil)
 Tq))))
theorem Zc3:Y8 (ck0 Oa W1 FN GN BN) b_Lnames (Z4 W1)=true:=by decide+kernel
noncomputable abbrev Xu:Stmt:=top 24
noncomputable def Sw:List Str:=["_law_drawn","_law_number"]
theorem Z12:FnScope Sw ["_law_drawn"] (Z0 Xu):=⟨rfl,rfl,rfl,by decide+kernel,rfl,by decide+kernel,by decide+kernel⟩
noncomputable def b_Lgreat:Ss:=
 (.cons (.set [1] (.bin .mul (.call 14 (.cons (.var 0) .nil)) (.int 2147483629)))
 (.cons (.ret (.bin .sub (.bin .mod (.bin .add (.var 1) (.call 14 (.cons (.var 0) .nil))) (.bin .add (.bin .mul (.int 2) (.bin .pow (.int 10) (.int 18))) (.int 1))) (.bin .pow (.int 10) (.int 18))))
 .nil))
theorem Zf9:Y8 (ck0 Sw Xu FN GN BN) b_Lgreat (Z4 Xu)=true:=by decide+kernel
noncomputable abbrev Yy:Stmt:=top 25
noncomputable def V9:List Str:=["_law_drawn","_law_names_here","_law_way"]
theorem Gk:FnScope V9 ["_law_drawn","_law_names_here"] (Z0 Yy):=⟨rfl,rfl,rfl,by decide+kernel,rfl,by decide+kernel,by decide+kernel⟩
noncomputable def Sf:Ss:=
 (.cons (.ret (.ix (.var 1) (.bin .mod (.call 14 (.cons (.var 0) .nil)) (.int 4))))
 .nil)
noncomputable def Sc:Ss:=
 (.cons (.ite (.cmp .lt (.var 2) (.int 3)) (.cons (.ret (.bin .sub (.bin .mod (.call 14 (.cons (.var 0) .nil)) (.int 9)) (.int 3)))
 .nil) .nil)
 Sf)
noncomputable def b_Loperand:Ss:=
 (.cons (.set [2] (.bin .mod (.call 14 (.cons (.var 0) .nil)) (.int 8)))
 (.cons (.ite (.cmp .eq (.var 2) (.int 0)) (.cons (.ret (.call 16 (.cons (.var 0) .nil)))
 .nil) .nil)
 Sc))
theorem B3:Y8 (ck0 V9 Yy FN GN BN) b_Loperand (Z4 Yy)=true:=by decide+kernel
noncomputable abbrev So:Stmt:=top 26
noncomputable def E6:List Str:=["_law_drawn","_law_k","_law_numbers","_law_names_here","_law_kind","_law_one","_law_other","_law_sign"]
theorem Zu1:FnScope E6 ["_law_drawn","_law_k","_law_numbers","_law_names_here"] (Z0 So):=⟨rfl,rfl,rfl,by decide+kernel,rfl,by decide+kernel,by decide+kernel⟩
noncomputable def Ez:Ss:=
 (.cons (.set [7] (.ix (.lst (.cons (.str "<") (.cons (.str "=") .nil))) (.bin .mod (.call 14 (.cons (.var 0) .nil)) (.int 2))))
 (.cons (.ret (.tup (.cons (.ix (.var 2) (.var 1)) (.cons (.str "test") (.cons (.var 5) (.cons (.var 7) (.cons (.var 6) (.cons (.ix (.var 2) (.bin .mod (.call 14 (.cons (.var 0) .nil)) (.bf .len (.cons (.var 2) .nil)))) .nil))))))))
 .nil))
noncomputable def E4:Ss:=
 (.cons (.set [5] (.call 17 (.cons (.var 0) (.cons (.var 3) .nil))))
 (.cons (.set [6] (.call 17 (.cons (.var 0) (.cons (.var 3) .nil))))
 (.cons (.ite (.cmp .lt (.var 4) (.int 7)) (.cons (.set [7] (.ix (.lst (.cons (.str "+") (.cons (.str "-") (.cons (.str "/") (.cons (.str "rest") (.cons (.str "&") (.cons (.str "^") .nil))))))) (.bin .mod (.call 14 (.cons (.var 0) .nil)) (.int 6))))
 (.cons (.ret (.tup (.cons (.ix (.var 2) (.var 1)) (.cons (.str "sum") (.cons (.ix (.var 3) (.bin .mod (.call 14 (.cons (.var 0) .nil)) (.int 4))) (.cons (.var 5) (.cons (.var 7) (.cons (.var 6) .nil))))))))
 .nil)) .nil)
 Ez)))
noncomputable def Gy:Ss:=
 (.cons (.ite (.cmp .gt (.var 4) (.int 11)) (.cons (.ret (.tup (.cons (.ix (.var 2) (.var 1)) (.cons (.str "jump") (.cons (.ix (.var 2) (.bin .mod (.call 14 (.cons (.var 0) .nil)) (.bf .len (.cons (.var 2) .nil)))) .nil)))))
 .nil) .nil)
 E4)
noncomputable def b_Lrow:Ss:=
 (.cons (.set [4] (.bin .mod (.call 14 (.cons (.var 0) .nil)) (.int 16)))
 (.cons (.ite (.cmp .eq (.var 4) (.int 15)) (.cons (.ret (.tup (.cons (.ix (.var 2) (.var 1)) (.cons (.str "end") .nil))))
 .nil) .nil)
 Gy))
theorem Y05:Y8 (ck0 E6 So FN GN BN) b_Lrow (Z4 So)=true:=by decide+kernel
noncomputable abbrev Ws:Stmt:=top 27
noncomputable def O7:List Str:=["_law_drawn","_law_names_here","_law_many","_law_step","_law_numbers","_law_k","_law_rows_here"]
theorem Zj3:FnScope O7 ["_law_drawn","_law_names_here"] (Z0 Ws):=⟨rfl,rfl,rfl,by decide+kernel,rfl,by decide+kernel,by decide+kernel⟩
noncomputable def Rx:Ss:=
 (.cons (.ret (.var 6))
 .nil)
noncomputable def G1:Ss:=
 (.cons (.set [6] (.comp ["_law_k","_law_drawn","_law_numbers","_law_names_here"] [none,(some 0),(some 4),(some 1)] [0] (.rng1 (.var 2)) .no (.call 18 (.cons (.var 1) (.cons (.var 0) (.cons (.var 2) (.cons (.var 3) .nil)))))))
 (.cons (.ite (.cmp .eq (.bin .mod (.call 14 (.cons (.var 0) .nil)) (.int 3)) (.int 0)) (.cons (.expr (.mt .append (.var 6) (.cons (.tup (.cons (.ix (.var 4) (.neg (.int 1))) (.cons (.str "jump") (.cons (.ix (.var 4) (.bin .mod (.call 14 (.cons (.var 0) .nil)) (.bf .len (.cons (.var 4) .nil)))) .nil)))) .nil)))
 .nil) (.cons (.expr (.mt .append (.var 6) (.cons (.tup (.cons (.ix (.var 4) (.neg (.int 1))) (.cons (.str "end") .nil))) .nil)))
 .nil))
 Rx))
noncomputable def Jl:Ss:=
 (.cons (.expr (.mt .append (.var 4) (.cons (.bin .add (.bin .add (.ix (.var 4) (.var 5)) (.int 1)) (.bin .mod (.call 14 (.cons (.var 0) .nil)) (.var 3))) .nil)))
 .nil)
noncomputable def b_Lrows:Ss:=
 (.cons (.set [2] (.bin .mod (.call 14 (.cons (.var 0) .nil)) (.int 61)))
 (.cons (.set [3] (.ix (.lst (.cons (.int 1) (.cons (.int 10) (.cons (.int 97) .nil)))) (.bin .mod (.call 14 (.cons (.var 0) .nil)) (.int 3))))
 (.cons (.set [4] (.lst (.cons (.bin .add (.int 1) (.bin .mod (.call 14 (.cons (.var 0) .nil)) (.int 300))) .nil)))
 (.cons (.for_ [5] (.rng1 (.var 2)) Jl)
 G1))))
theorem Zp3:Y8 (ck0 O7 Ws FN GN BN) b_Lrows (Z4 Ws)=true:=by decide+kernel
noncomputable abbrev X9:Stmt:=top 28
noncomputable def Th:List Str:=["_law_drawn","_law_names_here","_law_memory_here","_law_name","_law_way"]
theorem Cn:FnScope Th ["_law_drawn","_law_names_here"] (Z0 X9):=⟨rfl,rfl,rfl,by decide+kernel,rfl,by decide+kernel,by decide+kernel⟩
noncomputable def Rs:Ss:=
 (.cons (.ret (.var 2))
 .nil)
noncomputable def Rm:Ss:=
 (.cons (.set [4] (.bin .mod (.call 14 (.cons (.var 0) .nil)) (.int 6)))
 (.cons (.ite (.cmp .gt (.var 4) (.int 2)) (.cons (.put (.var 2) (.var 3) (.bin .sub (.bin .mod (.call 14 (.cons (.var 0) .nil)) (.int 41)) (.int 20)))
 .nil) (.cons (.ite (.cmp .gt (.var 4) (.int 0)) (.cons (.put (.var 2) (.var 3) (.call 16 (.cons (.var 0) .nil)))
 .nil) .nil)
 .nil))
 .nil))
noncomputable def b_Lmemory:Ss:=
 (.cons (.set [2] .dict0)
 (.cons (.for_ [3] (.seq (.var 1)) Rm)
 Rs))
theorem Z01:Y8 (ck0 Th X9 FN GN BN) b_Lmemory (Z4 X9)=true:=by decide+kernel
noncomputable abbrev Xz:Stmt:=top 29
noncomputable def Xr:List Str:=["_law_found","_law_due","_law_k"]
theorem Rh:FnScope Xr ["_law_found","_law_due"] (Z0 Xz):=⟨rfl,rfl,rfl,by decide+kernel,rfl,by decide+kernel,by decide+kernel⟩
noncomputable def O1:Ss:=
 (.cons (.ret (.bl true))
 .nil)
noncomputable def Pf:Ss:=
 (.cons (.ite (.not (.call 21 (.cons (.ix (.var 0) (.var 2)) (.cons (.ix (.var 1) (.var 2)) .nil)))) (.cons (.ret (.bl false))
 .nil) .nil)
 .nil)
noncomputable def Ps:Ss:=
 (.cons (.for_ [2] (.rng1 (.bf .len (.cons (.var 1) .nil))) Pf)
 O1)
noncomputable def Tp:Ss:=
 (.cons (.ite (.cmp .ne (.bf .len (.cons (.var 0) .nil)) (.bf .len (.cons (.var 1) .nil))) (.cons (.ret (.bl false))
 .nil) .nil)
 Ps)
noncomputable def To:Ss:=
 (.cons (.ite (.bop false (.cons (.bop true (.cons (.bf .isinst (.cons (.var 1) (.cons (.ty .tuple) .nil))) (.cons (.not (.bf .isinst (.cons (.var 0) (.cons (.ty .tuple) .nil)))) .nil))) (.cons (.bop true (.cons (.bf .isinst (.cons (.var 1) (.cons (.ty .list) .nil))) (.cons (.not (.bf .isinst (.cons (.var 0) (.cons (.ty .list) .nil)))) .nil))) .nil))) (.cons (.ret (.bl false))
 .nil) .nil)
 Tp)
noncomputable def Vd:Ss:=
 (.cons (.ite (.bf .isinst (.cons (.var 1) (.cons (.ty .str) .nil))) (.cons (.ret (.bop true (.cons (.bf .isinst (.cons (.var 0) (.cons (.ty .str) .nil))) (.cons (.cmp .eq (.var 0) (.var 1)) .nil))))
 .nil) .nil)
 To)
noncomputable def Wb:Ss:=
 (.cons (.ite (.bf .isinst (.cons (.var 1) (.cons (.ty .int) .nil))) (.cons (.ret (.bop true (.cons (.bf .isinst (.cons (.var 0) (.cons (.ty .int) .nil))) (.cons (.not (.bf .isinst (.cons (.var 0) (.cons (.ty .bool) .nil)))) (.cons (.cmp .eq (.var 0) (.var 1)) .nil)))))
 .nil) .nil)
 Vd)
noncomputable def b_Lalike:Ss:=
 (.cons (.ite (.bf .isinst (.cons (.var 1) (.cons (.ty .bool) .nil))) (.cons (.ret (.bop true (.cons (.bf .isinst (.cons (.var 0) (.cons (.ty .bool) .nil))) (.cons (.cmp .eq (.var 0) (.var 1)) .nil))))
 .nil) .nil)
 Wb)
theorem Oc:Y8 (ck0 Xr Xz FN GN BN) b_Lalike (Z4 Xz)=true:=by decide+kernel
noncomputable abbrev Zz:Stmt:=top 30
noncomputable def X7:List Str:=["_law_found","_law_due","_law_name"]
theorem Qh:FnScope X7 ["_law_found","_law_due"] (Z0 Zz):=⟨rfl,rfl,rfl,by decide+kernel,rfl,by decide+kernel,by decide+kernel⟩
noncomputable def Wp:Ss:=
 (.cons (.ret (.bl true))
 .nil)
noncomputable def Wo:Ss:=
 (.cons (.ite (.bop false (.cons (.cmp .notin (.var 2) (.var 0)) (.cons (.not (.call 21 (.cons (.ix (.var 0) (.var 2)) (.cons (.ix (.var 1) (.var 2)) .nil)))) .nil))) (.cons (.ret (.bl false))
 .nil) .nil)
 .nil)
noncomputable def Wq:Ss:=
 (.cons (.forK [2] (.var 1) Wo)
 Wp)
noncomputable def b_Lsame_memory:Ss:=
 (.cons (.ite (.bop false (.cons (.not (.bf .isinst (.cons (.var 0) (.cons (.ty .dict) .nil)))) (.cons (.cmp .ne (.bf .len (.cons (.var 0) .nil)) (.bf .len (.cons (.var 1) .nil))) .nil))) (.cons (.ret (.bl false))
 .nil) .nil)
 Wq)
theorem Qp:Y8 (ck0 X7 Zz FN GN BN) b_Lsame_memory (Z4 Zz)=true:=by decide+kernel
noncomputable abbrev Xq:Stmt:=top 31
noncomputable def Sv:List Str:=["_law_operand_here","_law_memory_here"]
theorem Z23:FnScope Sv ["_law_operand_here","_law_memory_here"] (Z0 Xq):=⟨rfl,rfl,rfl,by decide+kernel,rfl,by decide+kernel,by decide+kernel⟩
noncomputable def O2:Ss:=
 (.cons (.ret (.var 0))
 .nil)
noncomputable def b_Lworth:Ss:=
 (.cons (.ite (.bf .isinst (.cons (.var 0) (.cons (.ty .str) .nil))) (.cons (.ret (.mt .get2 (.var 1) (.cons (.var 0) (.cons (.int 0) .nil))))
 .nil) .nil)
 O2)
theorem Ze3:Y8 (ck0 Sv Xq FN GN BN) b_Lworth (Z4 Xq)=true:=by decide+kernel
noncomputable abbrev Yn:Stmt:=top 32
noncomputable def Wl:List Str:=["_law_sign","_law_one","_law_other","_law_found","_law_rest"]
theorem Nb:FnScope Wl ["_law_sign","_law_one","_law_other","_law_found"] (Z0 Yn):=⟨rfl,rfl,rfl,by decide+kernel,rfl,by decide+kernel,by decide+kernel⟩
noncomputable def T3:Ss:=
 (.cons (.ret (.bop false (.cons (.cmp2 .le .lt (.int 0) (.var 4) (.var 2)) (.cons (.cmp2 .lt .le (.var 2) (.var 4) (.int 0)) .nil))))
 .nil)
noncomputable def Wj:Ss:=
 (.cons (.ite (.cmp .ne (.bin .mod (.bin .sub (.var 1) (.var 4)) (.var 2)) (.int 0)) (.cons (.ret (.bl false))
 .nil) .nil)
 T3)
noncomputable def Tg:Ss:=
 (.cons (.set [4] (.var 3))
 (.cons (.ite (.cmp .eq (.var 0) (.str "/")) (.cons (.set [4] (.bin .sub (.var 1) (.bin .mul (.var 2) (.var 3))))
 .nil) .nil)
 Wj))
noncomputable def Ta:Ss:=
 (.cons (.ite (.cmp .eq (.var 2) (.int 0)) (.cons (.ret (.bl false))
 .nil) .nil)
 Tg)
noncomputable def Vy:Ss:=
 (.cons (.ite (.cmp .eq (.var 0) (.str "^")) (.cons (.ret (.cmp .eq (.bin .bxor (.var 3) (.var 2)) (.var 1)))
 .nil) .nil)
 Ta)
noncomputable def T7:Ss:=
 (.cons (.ite (.cmp .eq (.var 0) (.str "&")) (.cons (.ret (.cmp .eq (.var 3) (.bin .band (.var 1) (.var 2))))
 .nil) .nil)
 Vy)
noncomputable def Tm:Ss:=
 (.cons (.ite (.cmp .eq (.var 0) (.str "-")) (.cons (.ret (.cmp .eq (.bin .add (.var 3) (.var 2)) (.var 1)))
 .nil) .nil)
 T7)
noncomputable def b_Lsum_fits:Ss:=
 (.cons (.ite (.cmp .eq (.var 0) (.str "+")) (.cons (.ret (.cmp .eq (.var 3) (.bin .add (.var 1) (.var 2))))
 .nil) .nil)
 Tm)
theorem Gf:Y8 (ck0 Wl Yn FN GN BN) b_Lsum_fits (Z4 Yn)=true:=by decide+kernel
noncomputable abbrev Xp:Stmt:=top 33
noncomputable def Re:List Str:=["_law_sign","_law_one","_law_other"]
theorem Z84:FnScope Re ["_law_sign","_law_one","_law_other"] (Z0 Xp):=⟨rfl,rfl,rfl,by decide+kernel,rfl,by decide+kernel,by decide+kernel⟩
noncomputable def b_Ltruth:Ss:=
 (.cons (.ret (.bop false (.cons (.bop true (.cons (.cmp .eq (.var 0) (.str "<")) (.cons (.cmp .lt (.var 1) (.var 2)) .nil))) (.cons (.bop true (.cons (.cmp .eq (.var 0) (.str "=")) (.cons (.cmp .eq (.var 1) (.var 2)) .nil))) .nil))))
 .nil)
theorem Zg8:Y8 (ck0 Re Xp FN GN BN) b_Ltruth (Z4 Xp)=true:=by decide+kernel
noncomputable abbrev Yk:Stmt:=top 34
noncomputable def Xy:List Str:=["_law_deed","_law_row_here","_law_memory_here","_law_one","_law_other"]
theorem Ov:FnScope Xy ["_law_deed","_law_row_here","_law_memory_here"] (Z0 Yk):=⟨rfl,rfl,rfl,by decide+kernel,rfl,by decide+kernel,by decide+kernel⟩
noncomputable def Vo:Ss:=
 (.cons (.ret (.call 24 (.cons (.ix (.var 1) (.int 4)) (.cons (.var 3) (.cons (.var 4) (.cons (.ix (.var 0) (.int 5)) .nil))))))
 .nil)
noncomputable def Vm:Ss:=
 (.cons (.ite (.not (.call 21 (.cons (.sl (.var 0) .no (.yes (.int 5))) (.cons (.tup (.cons (.str "sum") (.cons (.ix (.var 1) (.int 2)) (.cons (.var 3) (.cons (.ix (.var 1) (.int 4)) (.cons (.var 4) .nil)))))) .nil)))) (.cons (.ret (.bl false))
 .nil) .nil)
 Vo)
noncomputable def Vn:Ss:=
 (.cons (.set [3] (.call 23 (.cons (.ix (.var 1) (.int 3)) (.cons (.var 2) .nil))))
 (.cons (.set [4] (.call 23 (.cons (.ix (.var 1) (.int 5)) (.cons (.var 2) .nil))))
 (.cons (.ite (.bop false (.cons (.not (.bf .isinst (.cons (.ix (.var 0) (.int 5)) (.cons (.ty .int) .nil)))) (.cons (.bf .isinst (.cons (.ix (.var 0) (.int 5)) (.cons (.ty .bool) .nil))) .nil))) (.cons (.ret (.bl false))
 .nil) .nil)
 Vm)))
noncomputable def Vl:Ss:=
 (.cons (.ite (.bop false (.cons (.cmp .ne (.ix (.var 1) (.int 1)) (.str "sum")) (.cons (.not (.bf .isinst (.cons (.var 0) (.cons (.ty .tuple) .nil)))) (.cons (.cmp .ne (.bf .len (.cons (.var 0) .nil)) (.int 6)) .nil)))) (.cons (.ret (.bl false))
 .nil) .nil)
 Vn)
noncomputable def b_Ldeed_fits:Ss:=
 (.cons (.ite (.cmp .eq (.ix (.var 1) (.int 1)) (.str "test")) (.cons (.set [3] (.call 23 (.cons (.ix (.var 1) (.int 2)) (.cons (.var 2) .nil))))
 (.cons (.set [4] (.call 23 (.cons (.ix (.var 1) (.int 4)) (.cons (.var 2) .nil))))
 (.cons (.ret (.call 21 (.cons (.var 0) (.cons (.tup (.cons (.str "test") (.cons (.var 3) (.cons (.ix (.var 1) (.int 3)) (.cons (.var 4) (.cons (.call 25 (.cons (.ix (.var 1) (.int 3)) (.cons (.var 3) (.cons (.var 4) .nil)))) .nil)))))) .nil))))
 .nil))) .nil)
 Vl)
theorem Nl:Y8 (ck0 Xy Yk FN GN BN) b_Ldeed_fits (Z4 Yk)=true:=by decide+kernel
noncomputable abbrev Yz:Stmt:=top 35
noncomputable def Vg:List Str:=["_law_rows_here","_law_places","_law_at","_law_k"]
theorem Gs:FnScope Vg ["_law_rows_here","_law_places","_law_at"] (Z0 Yz):=⟨rfl,rfl,rfl,by decide+kernel,rfl,by decide+kernel,by decide+kernel⟩
noncomputable def Sb:Ss:=
 (.cons (.ret (.neg (.int 1)))
 .nil)
noncomputable def Sa:Ss:=
 (.cons (.set [2] (.ix (.var 1) (.ix (.ix (.var 0) (.var 2)) (.int 2))))
 .nil)
noncomputable def Se:Ss:=
 (.cons (.ite (.cmp .ne (.ix (.ix (.var 0) (.var 2)) (.int 1)) (.str "jump")) (.cons (.ret (.var 2))
 .nil) .nil)
 Sa)
noncomputable def b_Lcome_to:Ss:=
 (.cons (.for_ [3] (.rng1 (.bin .add (.bf .len (.cons (.var 0) .nil)) (.int 1))) Se)
 Sb)
theorem Ba:Y8 (ck0 Vg Yz FN GN BN) b_Lcome_to (Z4 Yz)=true:=by decide+kernel
noncomputable abbrev V2:Stmt:=top 36
noncomputable def Oe:List Str:=["_law_rows_here","_law_memory_here","_law_deeds","_law_places","_law_k","_law_at","_law_deed","_law_row_here"]
theorem Zd8:FnScope Oe ["_law_rows_here","_law_memory_here","_law_deeds"] (Z0 V2):=⟨rfl,rfl,rfl,by decide+kernel,rfl,by decide+kernel,by decide+kernel⟩
noncomputable def Nj:Ss:=
 (.cons (.ret (.var 5))
 .nil)
noncomputable def Ri:Ss:=
 (.cons (.ite (.bop true (.cons (.cmp .eq (.ix (.var 7) (.int 1)) (.str "test")) (.cons (.ix (.var 6) (.int 4)) .nil))) (.cons (.set [5] (.call 27 (.cons (.var 0) (.cons (.var 3) (.cons (.ix (.var 3) (.ix (.var 7) (.int 5))) .nil)))))
 .nil) (.cons (.set [5] (.call 27 (.cons (.var 0) (.cons (.var 3) (.cons (.bin .add (.var 5) (.int 1)) .nil)))))
 .nil))
 .nil)
noncomputable def Jt:Ss:=
 (.cons (.set [7] (.ix (.var 0) (.var 5)))
 (.cons (.ite (.cmp .eq (.ix (.var 7) (.int 1)) (.str "sum")) (.cons (.put (.var 1) (.ix (.var 7) (.int 2)) (.ix (.var 6) (.int 5)))
 .nil) .nil)
 Ri))
noncomputable def Jm:Ss:=
 (.cons (.ite (.bop false (.cons (.cmp .lt (.var 5) (.int 0)) (.cons (.not (.call 26 (.cons (.var 6) (.cons (.ix (.var 0) (.var 5)) (.cons (.var 1) .nil))))) .nil))) (.cons (.ret .non)
 .nil) .nil)
 Jt)
noncomputable def Jp:Ss:=
 (.cons (.set [5] (.call 27 (.cons (.var 0) (.cons (.var 3) (.cons (.int 0) .nil)))))
 (.cons (.for_ [6] (.seq (.var 2)) Jm)
 Nj))
noncomputable def G3:Ss:=
 (.cons (.put (.var 3) (.ix (.ix (.var 0) (.var 4)) (.int 0)) (.var 4))
 .nil)
noncomputable def b_Lwalk:Ss:=
 (.cons (.set [3] .dict0)
 (.cons (.for_ [4] (.rng1 (.bf .len (.cons (.var 0) .nil))) G3)
 Jp))
theorem Zq0:Y8 (ck0 Oe V2 FN GN BN) b_Lwalk (Z4 V2)=true:=by decide+kernel
noncomputable abbrev Wt:Stmt:=top 37
noncomputable def O9:List Str:=["_law_rows_here","_law_at","_law_memory_here","_law_full"]
theorem Zj6:FnScope O9 ["_law_rows_here","_law_at","_law_memory_here","_law_full"] (Z0 Wt):=⟨rfl,rfl,rfl,by decide+kernel,rfl,by decide+kernel,by decide+kernel⟩
noncomputable def Bv:Ss:=
 (.cons (.ret (.str "none of these"))
 .nil)
noncomputable def Nz:Ss:=
 (.cons (.ite (.bop true (.cons (.cmp .eq (.ix (.ix (.var 0) (.var 1)) (.int 1)) (.str "sum")) (.cons (.cmp .isin (.ix (.ix (.var 0) (.var 1)) (.int 4)) (.lst (.cons (.str "/") (.cons (.str "rest") .nil)))) (.cons (.cmp .eq (.call 23 (.cons (.ix (.ix (.var 0) (.var 1)) (.int 5)) (.cons (.var 2) .nil))) (.int 0)) .nil)))) (.cons (.ret (.str "fault"))
 .nil) .nil)
 Bv)
noncomputable def Qj:Ss:=
 (.cons (.ite (.var 3) (.cons (.ret (.str "on"))
 .nil) .nil)
 Nz)
noncomputable def N5:Ss:=
 (.cons (.ite (.cmp .eq (.ix (.ix (.var 0) (.var 1)) (.int 1)) (.str "end")) (.cons (.ret (.str "end"))
 .nil) .nil)
 Qj)
noncomputable def b_Lword:Ss:=
 (.cons (.ite (.cmp .lt (.var 1) (.int 0)) (.cons (.ret (.str "on"))
 .nil) .nil)
 N5)
theorem Zv6:Y8 (ck0 O9 Wt FN GN BN) b_Lword (Z4 Wt)=true:=by decide+kernel
noncomputable abbrev Xs:Stmt:=top 38
noncomputable def R7:List Str:=["_law_found","_law_most"]
theorem Z94:FnScope R7 ["_law_found","_law_most"] (Z0 Xs):=⟨rfl,rfl,rfl,by decide+kernel,rfl,by decide+kernel,by decide+kernel⟩
noncomputable def Pg:Ss:=
 (.cons (.ret (.bop true (.cons (.bf .isinst (.cons (.ix (.var 0) (.int 1)) (.cons (.ty .str) .nil))) (.cons (.bf .isinst (.cons (.ix (.var 0) (.int 2)) (.cons (.ty .dict) .nil))) (.cons (.cmp .le (.bf .len (.cons (.ix (.var 0) (.int 0)) .nil)) (.var 1)) .nil)))))
 .nil)
noncomputable def b_Lkinds:Ss:=
 (.cons (.ite (.bop false (.cons (.not (.bf .isinst (.cons (.var 0) (.cons (.ty .tuple) .nil)))) (.cons (.cmp .ne (.bf .len (.cons (.var 0) .nil)) (.int 3)) (.cons (.not (.bf .isinst (.cons (.ix (.var 0) (.int 0)) (.cons (.ty .list) .nil)))) .nil)))) (.cons (.ret (.bl false))
 .nil) .nil)
 Pg)
theorem Zh7:Y8 (ck0 R7 Xs FN GN BN) b_Lkinds (Z4 Xs)=true:=by decide+kernel
noncomputable abbrev J0:Stmt:=top 39
noncomputable def Zj2:List Str:=["_law_script","_law_drawn","_law_names_here","_law_first","_law_then","_law_memory_here","_law_rows_here","_law_part","_law_now","_law_at","_law_full","_law_ahead","_law_late"]
theorem Zz1:FnScope Zj2 ["_law_script"] (Z0 J0):=⟨rfl,rfl,rfl,by decide+kernel,rfl,by decide+kernel,by decide+kernel⟩
noncomputable def Z91:Ss:=
 (.cons (.ret (.call 22 (.cons (.ix (.var 10) (.int 2)) (.cons (.ix (.var 12) (.int 2)) .nil))))
 .nil)
noncomputable def Za8:Ss:=
 (.cons (.ite (.bop false (.cons (.not (.call 21 (.cons (.ix (.var 10) (.int 0)) (.cons (.bin .add (.ix (.var 7) (.int 0)) (.ix (.var 12) (.int 0))) .nil)))) (.cons (.cmp .ne (.ix (.var 10) (.int 1)) (.ix (.var 12) (.int 1))) .nil))) (.cons (.ret (.bl false))
 .nil) .nil)
 Z91)
noncomputable def G8:Ss:=
 (.cons (.ite (.bop false (.cons (.not (.call 30 (.cons (.var 10) (.cons (.bin .add (.var 3) (.var 4)) .nil)))) (.cons (.not (.call 30 (.cons (.var 12) (.cons (.var 4) .nil)))) .nil))) (.cons (.ret (.bl false))
 .nil) .nil)
 Za8)
noncomputable def Gc:Ss:=
 (.cons (.set [12] (.call 12 (.cons (.var 11) (.cons (.var 8) (.cons (.var 4) .nil)))))
 (.cons (.ite (.cmp .lt (.var 9) (.int 0)) (.cons (.set [12] (.tup (.cons (.lst .nil) (.cons (.str "on") (.cons (.var 8) .nil)))))
 .nil) .nil)
 G8))
noncomputable def Z07:Ss:=
 (.cons (.set [10] (.call 12 (.cons (.var 6) (.cons (.var 5) (.cons (.bin .add (.var 3) (.var 4)) .nil)))))
 (.cons (.set [11] (.var 6))
 (.cons (.ite (.cmp .ge (.var 9) (.int 0)) (.cons (.set [11] (.bin .add (.lst (.cons (.tup (.cons (.int 0) (.cons (.str "jump") (.cons (.ix (.ix (.var 6) (.var 9)) (.int 0)) .nil)))) .nil)) (.var 6)))
 .nil) .nil)
 Gc)))
noncomputable def Z57:Ss:=
 (.cons (.ite (.cmp .ne (.ix (.var 7) (.int 1)) (.call 29 (.cons (.var 6) (.cons (.var 9) (.cons (.var 8) (.cons (.cmp .eq (.bf .len (.cons (.ix (.var 7) (.int 0)) .nil)) (.var 3)) .nil)))))) (.cons (.ret (.bl false))
 .nil) .nil)
 Z07)
noncomputable def Z45:Ss:=
 (.cons (.set [8] (.bf .dict1 (.cons (.var 5) .nil)))
 (.cons (.set [9] (.call 28 (.cons (.var 6) (.cons (.var 8) (.cons (.ix (.var 7) (.int 0)) .nil)))))
 (.cons (.ite (.bop false (.cons (.cmp .is (.var 9) .non) (.cons (.not (.call 22 (.cons (.ix (.var 7) (.int 2)) (.cons (.var 8) .nil)))) .nil))) (.cons (.ret (.bl false))
 .nil) .nil)
 Z57)))
noncomputable def b_law:Ss:=
 (.cons (.set [1] (.call 13 (.cons (.var 0) .nil)))
 (.cons (.set [2] (.call 15 (.cons (.call 14 (.cons (.var 1) .nil)) .nil)))
 (.cons (.set [3] (.bin .mod (.call 14 (.cons (.var 1) .nil)) (.int 60)))
 (.cons (.set [4] (.bin .add (.int 1) (.bin .mod (.call 14 (.cons (.var 1) .nil)) (.int 60))))
 (.cons (.set [5] (.call 20 (.cons (.var 1) (.cons (.var 2) .nil))))
 (.cons (.set [6] (.call 19 (.cons (.var 1) (.cons (.var 2) .nil))))
 (.cons (.set [7] (.call 12 (.cons (.var 6) (.cons (.var 5) (.cons (.var 3) .nil)))))
 (.cons (.ite (.not (.call 30 (.cons (.var 7) (.cons (.var 3) .nil)))) (.cons (.ret (.bl false))
 .nil) .nil)
 Z45))))))))
theorem Y60:Y8 (ck0 Zj2 J0 FN GN BN) b_law (Z4 J0)=true:=by decide+kernel
noncomputable def Y21:Stmt→Stmt
 | .ClassDef _ _ _ (b::_) _ _ _ _ _ _ _=>b
 | s=>s
noncomputable abbrev Jo:Stmt:=Y21 (top 1)
theorem Zq5:FnScope ["self","row"] ["self","row"] (Z0 Jo):=⟨rfl,rfl,rfl,by decide+kernel,rfl,by decide+kernel,by decide+kernel⟩
theorem Zv3:Zj1 Jo=true:=by decide+kernel
set_option genInjectivity false in
structure Adr where
 mk::
 a_quotient:Addr
 d_quotient:FuncData
 a_rest:Addr
 d_rest:FuncData
 a_made:Addr
 d_made:FuncData
 a_holds:Addr
 d_holds:FuncData
 a_worth:Addr
 d_worth:FuncData
 a_deed_of_sum:Addr
 d_deed_of_sum:FuncData
 a_deed_of_test:Addr
 d_deed_of_test:FuncData
 a_behind:Addr
 d_behind:FuncData
 a_deed_of:Addr
 d_deed_of:FuncData
 a_run_from:Addr
 d_run_from:FuncData
 a_landings:Addr
 d_landings:FuncData
 a_linked:Addr
 d_linked:FuncData
 a_run:Addr
 d_run:FuncData
 a_Ldraws:Addr
 d_Ldraws:FuncData
 a_Lnext:Addr
 d_Lnext:FuncData
 a_Lnames:Addr
 d_Lnames:FuncData
 a_Lgreat:Addr
 d_Lgreat:FuncData
 a_Loperand:Addr
 d_Loperand:FuncData
 a_Lrow:Addr
 d_Lrow:FuncData
 a_Lrows:Addr
 d_Lrows:FuncData
 a_Lmemory:Addr
 d_Lmemory:FuncData
 a_Lalike:Addr
 d_Lalike:FuncData
 a_Lsame_memory:Addr
 d_Lsame_memory:FuncData
 a_Lworth:Addr
 d_Lworth:FuncData
 a_Lsum_fits:Addr
 d_Lsum_fits:FuncData
 a_Ltruth:Addr
 d_Ltruth:FuncData
 a_Ldeed_fits:Addr
 d_Ldeed_fits:FuncData
 a_Lcome_to:Addr
 d_Lcome_to:FuncData
 a_Lwalk:Addr
 d_Lwalk:FuncData
 a_Lword:Addr
 d_Lword:FuncData
 a_Lkinds:Addr
 d_Lkinds:FuncData
 a_law:Addr
 d_law:FuncData
 a_JumpError:Addr
 a_ByNought:Addr
 a_init:Addr
 d_init:FuncData
structure Tx(K:PySem.W.Frag)(mg:Str→Option Value)(t:Adr):Prop where
 mk::
 F_quotient:Fun K "quotient" "quotient" X0 t.a_quotient t.d_quotient
 g_quotient:mg "quotient"=some (.ref t.a_quotient)
 k_quotient:PySem.W.keepIn K (.ref t.a_quotient)=true
 b_quotient:Zq K t.d_quotient ["one","other"] []
 F_rest:Fun K "rest" "rest" Sm t.a_rest t.d_rest
 g_rest:mg "rest"=some (.ref t.a_rest)
 k_rest:PySem.W.keepIn K (.ref t.a_rest)=true
 b_rest:Zq K t.d_rest ["one","other"] []
 F_made:Fun K "made" "made" Sn t.a_made t.d_made
 g_made:mg "made"=some (.ref t.a_made)
 k_made:PySem.W.keepIn K (.ref t.a_made)=true
 b_made:Zq K t.d_made ["sign","one","other"] []
 F_holds:Fun K "holds" "holds" V4 t.a_holds t.d_holds
 g_holds:mg "holds"=some (.ref t.a_holds)
 k_holds:PySem.W.keepIn K (.ref t.a_holds)=true
 b_holds:Zq K t.d_holds ["sign","one","other"] []
 F_worth:Fun K "worth" "worth" Wx t.a_worth t.d_worth
 g_worth:mg "worth"=some (.ref t.a_worth)
 k_worth:PySem.W.keepIn K (.ref t.a_worth)=true
 b_worth:Zq K t.d_worth ["operand","memory"] []
 F_deed_of_sum:Fun K "deed_of_sum" "deed_of_sum" Y9 t.a_deed_of_sum t.d_deed_of_sum
 g_deed_of_sum:mg "deed_of_sum"=some (.ref t.a_deed_of_sum)
 k_deed_of_sum:PySem.W.keepIn K (.ref t.a_deed_of_sum)=true
 b_deed_of_sum:Zq K t.d_deed_of_sum ["name","one","sign","other","memory"] []
 F_deed_of_test:Fun K "deed_of_test" "deed_of_test" Zx t.a_deed_of_test t.d_deed_of_test
 g_deed_of_test:mg "deed_of_test"=some (.ref t.a_deed_of_test)
 k_deed_of_test:PySem.W.keepIn K (.ref t.a_deed_of_test)=true
 b_deed_of_test:Zq K t.d_deed_of_test ["one","sign","other","memory"] []
 F_behind:Fun K "behind" "behind" Xn t.a_behind t.d_behind
 g_behind:mg "behind"=some (.ref t.a_behind)
 k_behind:PySem.W.keepIn K (.ref t.a_behind)=true
 b_behind:Zq K t.d_behind ["node","deed","memory"] []
 F_deed_of:Fun K "deed_of" "deed_of" Xa t.a_deed_of t.d_deed_of
 g_deed_of:mg "deed_of"=some (.ref t.a_deed_of)
 k_deed_of:PySem.W.keepIn K (.ref t.a_deed_of)=true
 b_deed_of:Zq K t.d_deed_of ["node","memory"] []
 F_run_from:Fun K "run_from" "run_from" Yv t.a_run_from t.d_run_from
 g_run_from:mg "run_from"=some (.ref t.a_run_from)
 k_run_from:PySem.W.keepIn K (.ref t.a_run_from)=true
 b_run_from:Zq K t.d_run_from ["nodes","start","memory","most"] []
 F_landings:Fun K "landings" "landings" Yx t.a_landings t.d_landings
 g_landings:mg "landings"=some (.ref t.a_landings)
 k_landings:PySem.W.keepIn K (.ref t.a_landings)=true
 b_landings:Zq K t.d_landings ["rows","places"] []
 F_linked:Fun K "linked" "linked" W0 t.a_linked t.d_linked
 g_linked:mg "linked"=some (.ref t.a_linked)
 k_linked:PySem.W.keepIn K (.ref t.a_linked)=true
 b_linked:Zq K t.d_linked ["rows"] []
 F_run:Fun K "run" "run" Ja t.a_run t.d_run
 g_run:mg "run"=some (.ref t.a_run)
 k_run:PySem.W.keepIn K (.ref t.a_run)=true
 b_run:Zq K t.d_run ["rows","memory","most"] []
 e_run:∃tk,Zq K t.d_run ["rows","memory","most"] [.int 100 tk]
 F_Ldraws:Fun K "_law_draws" "_law_draws" Xv t.a_Ldraws t.d_Ldraws
 g_Ldraws:mg "_law_draws"=some (.ref t.a_Ldraws)
 k_Ldraws:PySem.W.keepIn K (.ref t.a_Ldraws)=true
 b_Ldraws:Zq K t.d_Ldraws ["_law_script"] []
 F_Lnext:Fun K "_law_next" "_law_next" Wu t.a_Lnext t.d_Lnext
 g_Lnext:mg "_law_next"=some (.ref t.a_Lnext)
 k_Lnext:PySem.W.keepIn K (.ref t.a_Lnext)=true
 b_Lnext:Zq K t.d_Lnext ["_law_drawn"] []
 F_Lnames:Fun K "_law_names" "_law_names" W1 t.a_Lnames t.d_Lnames
 g_Lnames:mg "_law_names"=some (.ref t.a_Lnames)
 k_Lnames:PySem.W.keepIn K (.ref t.a_Lnames)=true
 b_Lnames:Zq K t.d_Lnames ["_law_number"] []
 F_Lgreat:Fun K "_law_great" "_law_great" Xu t.a_Lgreat t.d_Lgreat
 g_Lgreat:mg "_law_great"=some (.ref t.a_Lgreat)
 k_Lgreat:PySem.W.keepIn K (.ref t.a_Lgreat)=true
 b_Lgreat:Zq K t.d_Lgreat ["_law_drawn"] []
 F_Loperand:Fun K "_law_operand" "_law_operand" Yy t.a_Loperand t.d_Loperand
 g_Loperand:mg "_law_operand"=some (.ref t.a_Loperand)
 k_Loperand:PySem.W.keepIn K (.ref t.a_Loperand)=true
 b_Loperand:Zq K t.d_Loperand ["_law_drawn","_law_names_here"] []
 F_Lrow:Fun K "_law_row" "_law_row" So t.a_Lrow t.d_Lrow
 g_Lrow:mg "_law_row"=some (.ref t.a_Lrow)
 k_Lrow:PySem.W.keepIn K (.ref t.a_Lrow)=true
 b_Lrow:Zq K t.d_Lrow ["_law_drawn","_law_k","_law_numbers","_law_names_here"] []
 F_Lrows:Fun K "_law_rows" "_law_rows" Ws t.a_Lrows t.d_Lrows
 g_Lrows:mg "_law_rows"=some (.ref t.a_Lrows)
 k_Lrows:PySem.W.keepIn K (.ref t.a_Lrows)=true
 b_Lrows:Zq K t.d_Lrows ["_law_drawn","_law_names_here"] []
 F_Lmemory:Fun K "_law_memory" "_law_memory" X9 t.a_Lmemory t.d_Lmemory
 g_Lmemory:mg "_law_memory"=some (.ref t.a_Lmemory)
 k_Lmemory:PySem.W.keepIn K (.ref t.a_Lmemory)=true
 b_Lmemory:Zq K t.d_Lmemory ["_law_drawn","_law_names_here"] []
 F_Lalike:Fun K "_law_alike" "_law_alike" Xz t.a_Lalike t.d_Lalike
 g_Lalike:mg "_law_alike"=some (.ref t.a_Lalike)
 k_Lalike:PySem.W.keepIn K (.ref t.a_Lalike)=true
 b_Lalike:Zq K t.d_Lalike ["_law_found","_law_due"] []
 F_Lsame_memory:Fun K "_law_same_memory" "_law_same_memory" Zz t.a_Lsame_memory t.d_Lsame_memory
 g_Lsame_memory:mg "_law_same_memory"=some (.ref t.a_Lsame_memory)
 k_Lsame_memory:PySem.W.keepIn K (.ref t.a_Lsame_memory)=true
 b_Lsame_memory:Zq K t.d_Lsame_memory ["_law_found","_law_due"] []
 F_Lworth:Fun K "_law_worth" "_law_worth" Xq t.a_Lworth t.d_Lworth
 g_Lworth:mg "_law_worth"=some (.ref t.a_Lworth)
 k_Lworth:PySem.W.keepIn K (.ref t.a_Lworth)=true
 b_Lworth:Zq K t.d_Lworth ["_law_operand_here","_law_memory_here"] []
 F_Lsum_fits:Fun K "_law_sum_fits" "_law_sum_fits" Yn t.a_Lsum_fits t.d_Lsum_fits
 g_Lsum_fits:mg "_law_sum_fits"=some (.ref t.a_Lsum_fits)
 k_Lsum_fits:PySem.W.keepIn K (.ref t.a_Lsum_fits)=true
 b_Lsum_fits:Zq K t.d_Lsum_fits ["_law_sign","_law_one","_law_other","_law_found"] []
 F_Ltruth:Fun K "_law_truth" "_law_truth" Xp t.a_Ltruth t.d_Ltruth
 g_Ltruth:mg "_law_truth"=some (.ref t.a_Ltruth)
 k_Ltruth:PySem.W.keepIn K (.ref t.a_Ltruth)=true
 b_Ltruth:Zq K t.d_Ltruth ["_law_sign","_law_one","_law_other"] []
 F_Ldeed_fits:Fun K "_law_deed_fits" "_law_deed_fits" Yk t.a_Ldeed_fits t.d_Ldeed_fits
 g_Ldeed_fits:mg "_law_deed_fits"=some (.ref t.a_Ldeed_fits)
 k_Ldeed_fits:PySem.W.keepIn K (.ref t.a_Ldeed_fits)=true
 b_Ldeed_fits:Zq K t.d_Ldeed_fits ["_law_deed","_law_row_here","_law_memory_here"] []
 F_Lcome_to:Fun K "_law_come_to" "_law_come_to" Yz t.a_Lcome_to t.d_Lcome_to
 g_Lcome_to:mg "_law_come_to"=some (.ref t.a_Lcome_to)
 k_Lcome_to:PySem.W.keepIn K (.ref t.a_Lcome_to)=true
 b_Lcome_to:Zq K t.d_Lcome_to ["_law_rows_here","_law_places","_law_at"] []
 F_Lwalk:Fun K "_law_walk" "_law_walk" V2 t.a_Lwalk t.d_Lwalk
 g_Lwalk:mg "_law_walk"=some (.ref t.a_Lwalk)
 k_Lwalk:PySem.W.keepIn K (.ref t.a_Lwalk)=true
 b_Lwalk:Zq K t.d_Lwalk ["_law_rows_here","_law_memory_here","_law_deeds"] []
 F_Lword:Fun K "_law_word" "_law_word" Wt t.a_Lword t.d_Lword
 g_Lword:mg "_law_word"=some (.ref t.a_Lword)
 k_Lword:PySem.W.keepIn K (.ref t.a_Lword)=true
 b_Lword:Zq K t.d_Lword ["_law_rows_here","_law_at","_law_memory_here","_law_full"] []
 F_Lkinds:Fun K "_law_kinds" "_law_kinds" Xs t.a_Lkinds t.d_Lkinds
 g_Lkinds:mg "_law_kinds"=some (.ref t.a_Lkinds)
 k_Lkinds:PySem.W.keepIn K (.ref t.a_Lkinds)=true
 b_Lkinds:Zq K t.d_Lkinds ["_law_found","_law_most"] []
 F_law:Fun K "law" "law" J0 t.a_law t.d_law
 g_law:mg "law"=some (.ref t.a_law)
 k_law:PySem.W.keepIn K (.ref t.a_law)=true
 b_law:Zq K t.d_law ["_law_script"] []
 z_isinstance:mg "isinstance"=none
 z_str:mg "str"=none
 z_len:mg "len"=none
 z_dict:mg "dict"=none
 z_range:mg "range"=none
 z_enumerate:mg "enumerate"=none
 z_list:mg "list"=none
 z_max:mg "max"=none
 z_min:mg "min"=none
 z_tuple:mg "tuple"=none
 z_int:mg "int"=none
 z_bool:mg "bool"=none
 g_JumpError:mg "JumpError"=some (.ref t.a_JumpError)
 g_ByNought:mg "ByNought"=some (.ref t.a_ByNought)
 mk_ByNought:ExcMk K t.a_ByNought t.a_init
 set_ByNought:ExcSet K t.a_ByNought "row"
 get_ByNought:ExcGet K t.a_ByNought "row"
 is_ByNought:ExcIs K t.a_ByNought
 ca_ByNought:Catch K t.a_ByNought t.a_JumpError true
 co_ByNought:Catch K t.a_ByNought t.a_ByNought true
 kit_ByNought_JumpError:PySem.W.kitOne K (.ref t.a_ByNought) (.ref t.a_JumpError)=some true
 kit_ByNought_ByNought:PySem.W.kitOne K (.ref t.a_ByNought) (.ref t.a_ByNought)=some true
 kit_ByNought:PySem.W.kitOne K (.ref t.a_ByNought) (.type "ValueError")=some true
 i_ok:∀(P:Program) (w:World) (mg:Str→Option Value) (base:Heap),FnOk P w K mg base CX0 1 t.a_init t.d_init ["self","row"] (Pp K)
 i_b1:Zq K t.d_init ["self","row"] [.none]
 i_b0:Zq K t.d_init ["self","row"] []
theorem ents{K:PySem.W.Frag}{mg:Str→Option Value}{t:Adr}(T:Tx K mg t):∀x∈FN,Ent K mg x:=
 all_cons ⟨_,_,_,T.g_quotient,T.k_quotient,T.b_quotient⟩ (all_cons ⟨_,_,_,T.g_rest,T.k_rest,T.b_rest⟩ (all_cons ⟨_,_,_,T.g_made,T.k_made,T.b_made⟩ (all_cons ⟨_,_,_,T.g_holds,T.k_holds,T.b_holds⟩ (all_cons ⟨_,_,_,T.g_worth,T.k_worth,T.b_worth⟩ (all_cons ⟨_,_,_,T.g_deed_of_sum,T.k_deed_of_sum,T.b_deed_of_sum⟩ (all_cons ⟨_,_,_,T.g_deed_of_test,T.k_deed_of_test,T.b_deed_of_test⟩ (all_cons ⟨_,_,_,T.g_behind,T.k_behind,T.b_behind⟩ (all_cons ⟨_,_,_,T.g_deed_of,T.k_deed_of,T.b_deed_of⟩ (all_cons ⟨_,_,_,T.g_run_from,T.k_run_from,T.b_run_from⟩ (all_cons ⟨_,_,_,T.g_landings,T.k_landings,T.b_landings⟩ (all_cons ⟨_,_,_,T.g_linked,T.k_linked,T.b_linked⟩ (all_cons ⟨_,_,_,T.g_run,T.k_run,T.b_run⟩ (all_cons ⟨_,_,_,T.g_Ldraws,T.k_Ldraws,T.b_Ldraws⟩ (all_cons ⟨_,_,_,T.g_Lnext,T.k_Lnext,T.b_Lnext⟩ (all_cons ⟨_,_,_,T.g_Lnames,T.k_Lnames,T.b_Lnames⟩ (all_cons ⟨_,_,_,T.g_Lgreat,T.k_Lgreat,T.b_Lgreat⟩ (all_cons ⟨_,_,_,T.g_Loperand,T.k_Loperand,T.b_Loperand⟩ (all_cons ⟨_,_,_,T.g_Lrow,T.k_Lrow,T.b_Lrow⟩ (all_cons ⟨_,_,_,T.g_Lrows,T.k_Lrows,T.b_Lrows⟩ (all_cons ⟨_,_,_,T.g_Lmemory,T.k_Lmemory,T.b_Lmemory⟩ (all_cons ⟨_,_,_,T.g_Lalike,T.k_Lalike,T.b_Lalike⟩ (all_cons ⟨_,_,_,T.g_Lsame_memory,T.k_Lsame_memory,T.b_Lsame_memory⟩ (all_cons ⟨_,_,_,T.g_Lworth,T.k_Lworth,T.b_Lworth⟩ (all_cons ⟨_,_,_,T.g_Lsum_fits,T.k_Lsum_fits,T.b_Lsum_fits⟩ (all_cons ⟨_,_,_,T.g_Ltruth,T.k_Ltruth,T.b_Ltruth⟩ (all_cons ⟨_,_,_,T.g_Ldeed_fits,T.k_Ldeed_fits,T.b_Ldeed_fits⟩ (all_cons ⟨_,_,_,T.g_Lcome_to,T.k_Lcome_to,T.b_Lcome_to⟩ (all_cons ⟨_,_,_,T.g_Lwalk,T.k_Lwalk,T.b_Lwalk⟩ (all_cons ⟨_,_,_,T.g_Lword,T.k_Lword,T.b_Lword⟩ (all_cons ⟨_,_,_,T.g_Lkinds,T.k_Lkinds,T.b_Lkinds⟩ (all_cons ⟨_,_,_,T.g_law,T.k_law,T.b_law⟩ (all_cons ⟨_,_,_,T.g_run,T.k_run,T.b_run⟩ Z22))))))))))))))))))))))))))))))))
theorem blts{K:PySem.W.Frag}{mg:Str→Option Value}{t:Adr}(T:Tx K mg t):∀x∈BN,mg x=none:=
 all_cons T.z_isinstance (all_cons T.z_str (all_cons T.z_len (all_cons T.z_dict (all_cons T.z_range (all_cons T.z_enumerate (all_cons T.z_list (all_cons T.z_max (all_cons T.z_min (all_cons T.z_tuple (all_cons T.z_int (all_cons T.z_bool Z22)))))))))))
set_option maxHeartbeats 0 in
theorem Y88{K:PySem.W.Frag}{h:Heap}{mg:Str→Option Value}{f0 f1 f2 f3 f4 f5 f6 f7 f8 f9 f10 f11 f12 f13 f14 f15 f16 f17 f18 f19 f20 f21 f22 f23 f24 f25 f26 f27 f28 f29 f30 f31 td12:Addr}(X:K.In h)(G:h.Ns mainGlobals mg)
  {od0 an0 od1 an1 od2 an2 od3 an3 od4 an4 od5 an5 od6 an6 od7 an7 od8 an8 od9 an9 od10 an10 od11 an11 od12 an12 od13 an13 od14 an14 od15 an15 od16 an16 od17 an17 od18 an18 od19 an19 od20 an20 od21 an21 od22 an22 od23 an23 od24 an24 od25 an25 od26 an26 od27 an27 od28 an28 od29 an29 od30 an30 od31 an31:Option Addr} {sl0 sl1 sl2 sl3 sl4 sl5 sl6 sl7 sl8 sl9 sl10 sl11 sl12 sl13 sl14 sl15 sl16 sl17 sl18 sl19 sl20 sl21 sl22 sl23 sl24 sl25 sl26 sl27 sl28 sl29 sl30 sl31:Array (Option Value)} {oc0 kV0 dc0 pm0 cd0 ct0 oc1 kV1 dc1 pm1 cd1 ct1 oc2 kV2 dc2 pm2 cd2 ct2 oc3 kV3 dc3 pm3 cd3 ct3 oc4 kV4 dc4 pm4 cd4 ct4 oc5 kV5 dc5 pm5 cd5 ct5 oc6 kV6 dc6 pm6 cd6 ct6 oc7 kV7 dc7 pm7 cd7 ct7 oc8 kV8 dc8 pm8 cd8 ct8 oc9 kV9 dc9 pm9 cd9 ct9 oc10 kV10 dc10 pm10 cd10 ct10 oc11 kV11 dc11 pm11 cd11 ct11 oc12 kV12 dc12 pm12 cd12 ct12 oc13 kV13 dc13 pm13 cd13 ct13 oc14 kV14 dc14 pm14 cd14 ct14 oc15 kV15 dc15 pm15 cd15 ct15 oc16 kV16 dc16 pm16 cd16 ct16 oc17 kV17 dc17 pm17 cd17 ct17 oc18 kV18 dc18 pm18 cd18 ct18 oc19 kV19 dc19 pm19 cd19 ct19 oc20 kV20 dc20 pm20 cd20 ct20 oc21 kV21 dc21 pm21 cd21 ct21 oc22 kV22 dc22 pm22 cd22 ct22 oc23 kV23 dc23 pm23 cd23 ct23 oc24 kV24 dc24 pm24 cd24 ct24 oc25 kV25 dc25 pm25 cd25 ct25 oc26 kV26 dc26 pm26 cd26 ct26 oc27 kV27 dc27 pm27 cd27 ct27 oc28 kV28 dc28 pm28 cd28 ct28 oc29 kV29 dc29 pm29 cd29 ct29 oc30 kV30 dc30 pm30 cd30 ct30 oc31 kV31 dc31 pm31 cd31 ct31:Value}
  (a0:PySem.W.nsIn K mainGlobals "quotient"=some (some (.ref f0))) (l0:K.lookup f0=some ⟨oc0,od0,.func (PySem.W.fnOf "quotient" "quotient" (Zf X0) (Z4 X0) (Z0 X0) .none kV0 dc0 pm0 an0 cd0 ct0),sl0⟩) (c0:PySem.W.codeIn K cd0 "quotient"=true) (k0:PySem.W.keepIn K (.ref f0)=true)
  (a1:PySem.W.nsIn K mainGlobals "rest"=some (some (.ref f1))) (l1:K.lookup f1=some ⟨oc1,od1,.func (PySem.W.fnOf "rest" "rest" (Zf Sm) (Z4 Sm) (Z0 Sm) .none kV1 dc1 pm1 an1 cd1 ct1),sl1⟩) (c1:PySem.W.codeIn K cd1 "rest"=true) (k1:PySem.W.keepIn K (.ref f1)=true)
  (a2:PySem.W.nsIn K mainGlobals "made"=some (some (.ref f2))) (l2:K.lookup f2=some ⟨oc2,od2,.func (PySem.W.fnOf "made" "made" (Zf Sn) (Z4 Sn) (Z0 Sn) .none kV2 dc2 pm2 an2 cd2 ct2),sl2⟩) (c2:PySem.W.codeIn K cd2 "made"=true) (k2:PySem.W.keepIn K (.ref f2)=true)
  (a3:PySem.W.nsIn K mainGlobals "holds"=some (some (.ref f3))) (l3:K.lookup f3=some ⟨oc3,od3,.func (PySem.W.fnOf "holds" "holds" (Zf V4) (Z4 V4) (Z0 V4) .none kV3 dc3 pm3 an3 cd3 ct3),sl3⟩) (c3:PySem.W.codeIn K cd3 "holds"=true) (k3:PySem.W.keepIn K (.ref f3)=true)
  (a4:PySem.W.nsIn K mainGlobals "worth"=some (some (.ref f4))) (l4:K.lookup f4=some ⟨oc4,od4,.func (PySem.W.fnOf "worth" "worth" (Zf Wx) (Z4 Wx) (Z0 Wx) .none kV4 dc4 pm4 an4 cd4 ct4),sl4⟩) (c4:PySem.W.codeIn K cd4 "worth"=true) (k4:PySem.W.keepIn K (.ref f4)=true)
  (a5:PySem.W.nsIn K mainGlobals "deed_of_sum"=some (some (.ref f5))) (l5:K.lookup f5=some ⟨oc5,od5,.func (PySem.W.fnOf "deed_of_sum" "deed_of_sum" (Zf Y9) (Z4 Y9) (Z0 Y9) .none kV5 dc5 pm5 an5 cd5 ct5),sl5⟩) (c5:PySem.W.codeIn K cd5 "deed_of_sum"=true) (k5:PySem.W.keepIn K (.ref f5)=true)
  (a6:PySem.W.nsIn K mainGlobals "deed_of_test"=some (some (.ref f6))) (l6:K.lookup f6=some ⟨oc6,od6,.func (PySem.W.fnOf "deed_of_test" "deed_of_test" (Zf Zx) (Z4 Zx) (Z0 Zx) .none kV6 dc6 pm6 an6 cd6 ct6),sl6⟩) (c6:PySem.W.codeIn K cd6 "deed_of_test"=true) (k6:PySem.W.keepIn K (.ref f6)=true)
  (a7:PySem.W.nsIn K mainGlobals "behind"=some (some (.ref f7))) (l7:K.lookup f7=some ⟨oc7,od7,.func (PySem.W.fnOf "behind" "behind" (Zf Xn) (Z4 Xn) (Z0 Xn) .none kV7 dc7 pm7 an7 cd7 ct7),sl7⟩) (c7:PySem.W.codeIn K cd7 "behind"=true) (k7:PySem.W.keepIn K (.ref f7)=true)
  (a8:PySem.W.nsIn K mainGlobals "deed_of"=some (some (.ref f8))) (l8:K.lookup f8=some ⟨oc8,od8,.func (PySem.W.fnOf "deed_of" "deed_of" (Zf Xa) (Z4 Xa) (Z0 Xa) .none kV8 dc8 pm8 an8 cd8 ct8),sl8⟩) (c8:PySem.W.codeIn K cd8 "deed_of"=true) (k8:PySem.W.keepIn K (.ref f8)=true)
  (a9:PySem.W.nsIn K mainGlobals "run_from"=some (some (.ref f9))) (l9:K.lookup f9=some ⟨oc9,od9,.func (PySem.W.fnOf "run_from" "run_from" (Zf Yv) (Z4 Yv) (Z0 Yv) .none kV9 dc9 pm9 an9 cd9 ct9),sl9⟩) (c9:PySem.W.codeIn K cd9 "run_from"=true) (k9:PySem.W.keepIn K (.ref f9)=true)
  (a10:PySem.W.nsIn K mainGlobals "landings"=some (some (.ref f10))) (l10:K.lookup f10=some ⟨oc10,od10,.func (PySem.W.fnOf "landings" "landings" (Zf Yx) (Z4 Yx) (Z0 Yx) .none kV10 dc10 pm10 an10 cd10 ct10),sl10⟩) (c10:PySem.W.codeIn K cd10 "landings"=true) (k10:PySem.W.keepIn K (.ref f10)=true)
  (a11:PySem.W.nsIn K mainGlobals "linked"=some (some (.ref f11))) (l11:K.lookup f11=some ⟨oc11,od11,.func (PySem.W.fnOf "linked" "linked" (Zf W0) (Z4 W0) (Z0 W0) .none kV11 dc11 pm11 an11 cd11 ct11),sl11⟩) (c11:PySem.W.codeIn K cd11 "linked"=true) (k11:PySem.W.keepIn K (.ref f11)=true)
  (a12:PySem.W.nsIn K mainGlobals "run"=some (some (.ref f12))) (l12:K.lookup f12=some ⟨oc12,od12,.func (PySem.W.fnOf "run" "run" (Zf Ja) (Z4 Ja) (Z0 Ja) (.ref td12) kV12 dc12 pm12 an12 cd12 ct12),sl12⟩) (c12:PySem.W.codeIn K cd12 "run"=true) (k12:PySem.W.keepIn K (.ref f12)=true)
  (a13:PySem.W.nsIn K mainGlobals "_law_draws"=some (some (.ref f13))) (l13:K.lookup f13=some ⟨oc13,od13,.func (PySem.W.fnOf "_law_draws" "_law_draws" (Zf Xv) (Z4 Xv) (Z0 Xv) .none kV13 dc13 pm13 an13 cd13 ct13),sl13⟩) (c13:PySem.W.codeIn K cd13 "_law_draws"=true) (k13:PySem.W.keepIn K (.ref f13)=true)
  (a14:PySem.W.nsIn K mainGlobals "_law_next"=some (some (.ref f14))) (l14:K.lookup f14=some ⟨oc14,od14,.func (PySem.W.fnOf "_law_next" "_law_next" (Zf Wu) (Z4 Wu) (Z0 Wu) .none kV14 dc14 pm14 an14 cd14 ct14),sl14⟩) (c14:PySem.W.codeIn K cd14 "_law_next"=true) (k14:PySem.W.keepIn K (.ref f14)=true)
  (a15:PySem.W.nsIn K mainGlobals "_law_names"=some (some (.ref f15))) (l15:K.lookup f15=some ⟨oc15,od15,.func (PySem.W.fnOf "_law_names" "_law_names" (Zf W1) (Z4 W1) (Z0 W1) .none kV15 dc15 pm15 an15 cd15 ct15),sl15⟩) (c15:PySem.W.codeIn K cd15 "_law_names"=true) (k15:PySem.W.keepIn K (.ref f15)=true)
  (a16:PySem.W.nsIn K mainGlobals "_law_great"=some (some (.ref f16))) (l16:K.lookup f16=some ⟨oc16,od16,.func (PySem.W.fnOf "_law_great" "_law_great" (Zf Xu) (Z4 Xu) (Z0 Xu) .none kV16 dc16 pm16 an16 cd16 ct16),sl16⟩) (c16:PySem.W.codeIn K cd16 "_law_great"=true) (k16:PySem.W.keepIn K (.ref f16)=true)
  (a17:PySem.W.nsIn K mainGlobals "_law_operand"=some (some (.ref f17))) (l17:K.lookup f17=some ⟨oc17,od17,.func (PySem.W.fnOf "_law_operand" "_law_operand" (Zf Yy) (Z4 Yy) (Z0 Yy) .none kV17 dc17 pm17 an17 cd17 ct17),sl17⟩) (c17:PySem.W.codeIn K cd17 "_law_operand"=true) (k17:PySem.W.keepIn K (.ref f17)=true)
  (a18:PySem.W.nsIn K mainGlobals "_law_row"=some (some (.ref f18))) (l18:K.lookup f18=some ⟨oc18,od18,.func (PySem.W.fnOf "_law_row" "_law_row" (Zf So) (Z4 So) (Z0 So) .none kV18 dc18 pm18 an18 cd18 ct18),sl18⟩) (c18:PySem.W.codeIn K cd18 "_law_row"=true) (k18:PySem.W.keepIn K (.ref f18)=true)
  (a19:PySem.W.nsIn K mainGlobals "_law_rows"=some (some (.ref f19))) (l19:K.lookup f19=some ⟨oc19,od19,.func (PySem.W.fnOf "_law_rows" "_law_rows" (Zf Ws) (Z4 Ws) (Z0 Ws) .none kV19 dc19 pm19 an19 cd19 ct19),sl19⟩) (c19:PySem.W.codeIn K cd19 "_law_rows"=true) (k19:PySem.W.keepIn K (.ref f19)=true)
  (a20:PySem.W.nsIn K mainGlobals "_law_memory"=some (some (.ref f20))) (l20:K.lookup f20=some ⟨oc20,od20,.func (PySem.W.fnOf "_law_memory" "_law_memory" (Zf X9) (Z4 X9) (Z0 X9) .none kV20 dc20 pm20 an20 cd20 ct20),sl20⟩) (c20:PySem.W.codeIn K cd20 "_law_memory"=true) (k20:PySem.W.keepIn K (.ref f20)=true)
  (a21:PySem.W.nsIn K mainGlobals "_law_alike"=some (some (.ref f21))) (l21:K.lookup f21=some ⟨oc21,od21,.func (PySem.W.fnOf "_law_alike" "_law_alike" (Zf Xz) (Z4 Xz) (Z0 Xz) .none kV21 dc21 pm21 an21 cd21 ct21),sl21⟩) (c21:PySem.W.codeIn K cd21 "_law_alike"=true) (k21:PySem.W.keepIn K (.ref f21)=true)
  (a22:PySem.W.nsIn K mainGlobals "_law_same_memory"=some (some (.ref f22))) (l22:K.lookup f22=some ⟨oc22,od22,.func (PySem.W.fnOf "_law_same_memory" "_law_same_memory" (Zf Zz) (Z4 Zz) (Z0 Zz) .none kV22 dc22 pm22 an22 cd22 ct22),sl22⟩) (c22:PySem.W.codeIn K cd22 "_law_same_memory"=true) (k22:PySem.W.keepIn K (.ref f22)=true)
  (a23:PySem.W.nsIn K mainGlobals "_law_worth"=some (some (.ref f23))) (l23:K.lookup f23=some ⟨oc23,od23,.func (PySem.W.fnOf "_law_worth" "_law_worth" (Zf Xq) (Z4 Xq) (Z0 Xq) .none kV23 dc23 pm23 an23 cd23 ct23),sl23⟩) (c23:PySem.W.codeIn K cd23 "_law_worth"=true) (k23:PySem.W.keepIn K (.ref f23)=true)
  (a24:PySem.W.nsIn K mainGlobals "_law_sum_fits"=some (some (.ref f24))) (l24:K.lookup f24=some ⟨oc24,od24,.func (PySem.W.fnOf "_law_sum_fits" "_law_sum_fits" (Zf Yn) (Z4 Yn) (Z0 Yn) .none kV24 dc24 pm24 an24 cd24 ct24),sl24⟩) (c24:PySem.W.codeIn K cd24 "_law_sum_fits"=true) (k24:PySem.W.keepIn K (.ref f24)=true)
  (a25:PySem.W.nsIn K mainGlobals "_law_truth"=some (some (.ref f25))) (l25:K.lookup f25=some ⟨oc25,od25,.func (PySem.W.fnOf "_law_truth" "_law_truth" (Zf Xp) (Z4 Xp) (Z0 Xp) .none kV25 dc25 pm25 an25 cd25 ct25),sl25⟩) (c25:PySem.W.codeIn K cd25 "_law_truth"=true) (k25:PySem.W.keepIn K (.ref f25)=true)
  (a26:PySem.W.nsIn K mainGlobals "_law_deed_fits"=some (some (.ref f26))) (l26:K.lookup f26=some ⟨oc26,od26,.func (PySem.W.fnOf "_law_deed_fits" "_law_deed_fits" (Zf Yk) (Z4 Yk) (Z0 Yk) .none kV26 dc26 pm26 an26 cd26 ct26),sl26⟩) (c26:PySem.W.codeIn K cd26 "_law_deed_fits"=true) (k26:PySem.W.keepIn K (.ref f26)=true)
  (a27:PySem.W.nsIn K mainGlobals "_law_come_to"=some (some (.ref f27))) (l27:K.lookup f27=some ⟨oc27,od27,.func (PySem.W.fnOf "_law_come_to" "_law_come_to" (Zf Yz) (Z4 Yz) (Z0 Yz) .none kV27 dc27 pm27 an27 cd27 ct27),sl27⟩) (c27:PySem.W.codeIn K cd27 "_law_come_to"=true) (k27:PySem.W.keepIn K (.ref f27)=true)
  (a28:PySem.W.nsIn K mainGlobals "_law_walk"=some (some (.ref f28))) (l28:K.lookup f28=some ⟨oc28,od28,.func (PySem.W.fnOf "_law_walk" "_law_walk" (Zf V2) (Z4 V2) (Z0 V2) .none kV28 dc28 pm28 an28 cd28 ct28),sl28⟩) (c28:PySem.W.codeIn K cd28 "_law_walk"=true) (k28:PySem.W.keepIn K (.ref f28)=true)
  (a29:PySem.W.nsIn K mainGlobals "_law_word"=some (some (.ref f29))) (l29:K.lookup f29=some ⟨oc29,od29,.func (PySem.W.fnOf "_law_word" "_law_word" (Zf Wt) (Z4 Wt) (Z0 Wt) .none kV29 dc29 pm29 an29 cd29 ct29),sl29⟩) (c29:PySem.W.codeIn K cd29 "_law_word"=true) (k29:PySem.W.keepIn K (.ref f29)=true)
  (a30:PySem.W.nsIn K mainGlobals "_law_kinds"=some (some (.ref f30))) (l30:K.lookup f30=some ⟨oc30,od30,.func (PySem.W.fnOf "_law_kinds" "_law_kinds" (Zf Xs) (Z4 Xs) (Z0 Xs) .none kV30 dc30 pm30 an30 cd30 ct30),sl30⟩) (c30:PySem.W.codeIn K cd30 "_law_kinds"=true) (k30:PySem.W.keepIn K (.ref f30)=true)
  (a31:PySem.W.nsIn K mainGlobals "law"=some (some (.ref f31))) (l31:K.lookup f31=some ⟨oc31,od31,.func (PySem.W.fnOf "law" "law" (Zf J0) (Z4 J0) (Z0 J0) .none kV31 dc31 pm31 an31 cd31 ct31),sl31⟩) (c31:PySem.W.codeIn K cd31 "law"=true) (k31:PySem.W.keepIn K (.ref f31)=true)
  (z0:PySem.W.nsIn K mainGlobals "isinstance"=some none) (z1:PySem.W.nsIn K mainGlobals "str"=some none) (z2:PySem.W.nsIn K mainGlobals "len"=some none) (z3:PySem.W.nsIn K mainGlobals "dict"=some none) (z4:PySem.W.nsIn K mainGlobals "range"=some none) (z5:PySem.W.nsIn K mainGlobals "enumerate"=some none) (z6:PySem.W.nsIn K mainGlobals "list"=some none) (z7:PySem.W.nsIn K mainGlobals "max"=some none) (z8:PySem.W.nsIn K mainGlobals "min"=some none) (z9:PySem.W.nsIn K mainGlobals "tuple"=some none) (z10:PySem.W.nsIn K mainGlobals "int"=some none) (z11:PySem.W.nsIn K mainGlobals "bool"=some none)
  {c_JumpError c_ByNought fi Ti:Addr}
  {ocI kVI dcI pmI cdI ctI ocT:Value} {odI anI odT:Option Addr} {slI slT:Array (Option Value)} {nT:Nat}
  (n0:PySem.W.nsIn K mainGlobals "JumpError"=some (some (.ref c_JumpError)))
  (n1:PySem.W.nsIn K mainGlobals "ByNought"=some (some (.ref c_ByNought)))
  {nm0 q0:Str} {N0:Addr} {bs0 sub0:List Value} {sn0:List Str} {ab0:Bool} {col0:Option Bool} {dd0:Option Addr} {ka0 kb0 kc0 kd0 ke0:Option Value}
  (xl0:K.lookup c_ByNought=some (excClassObj nm0 q0 c_ByNought N0 bs0 (.ref c_JumpError::vs4) true sn0 sub0 ab0 col0 dd0 ka0 kb0 kc0 kd0 ke0 "ValueError.__new__"))
  (xa0:PySem.W.findIn K (.ref c_ByNought) "__init__"=some (some (.ref fi)))
  (xb0:PySem.W.isFn K (.ref fi)=true)
  (xc0:PySem.W.keepIn K (.ref c_ByNought)=true)
  (xd0:PySem.W.findIn K (.ref c_ByNought) "row"=some none)
  (xe0:PySem.W.findIn K (.ref c_ByNought) "__setattr__"=some (some (.builtin "object.__setattr__")))
  (xf0:PySem.W.findIn K (.ref c_ByNought) "__getattribute__"=some (some (.builtin "BaseException.__getattribute__")))
  (xg0:PySem.W.findIn K (.ref c_ByNought) "__getattr__"=some none)
  (xh0:PySem.W.mroIn K c_ByNought (.type "BaseException")=some true)
  (xi0:PySem.W.findIn K (.ref c_ByNought) "__class__"=some (some (.builtin "object.__class__")))
  (xj0:PySem.W.mroIn K c_ByNought (.type "object")=some true)
  (xk0:PySem.W.mroIn K c_ByNought (.ref c_JumpError)=some true)
  (xm0:PySem.W.typeIn K (.ref c_ByNought)=some (.type "type"))
  (xn0:PySem.W.isClsIn K c_ByNought=true)
  (xo0:PySem.W.mroIn K c_ByNought (.ref c_ByNought)=some true)
  (y0_0:PySem.W.kitOne K (.ref c_ByNought) (.ref c_JumpError)=some true)
  (y0_1:PySem.W.kitOne K (.ref c_ByNought) (.ref c_ByNought)=some true)
  (y0:PySem.W.kitOne K (.ref c_ByNought) (.type "ValueError")=some true)
  (w0:PySem.W.specialIn K (.builtin "object.__class__") "__get__"=some (some (.builtin "getset_descriptor.__get__")))
  (w1:PySem.W.takesIn K (.builtin "object.__class__")=some true)
  (w2:PySem.W.typeIn K (.ref c_JumpError)=some (.type "type"))
  (w3:PySem.W.isClsIn K c_JumpError=true)
  (w4:PySem.W.mroIn K c_JumpError (.type "BaseException")=some true)
  (il:K.lookup fi=some ⟨ocI,odI,.func (PySem.W.fnOf "__init__" "JumpError.__init__" (Zf Jo) (Z4 Jo) (Z0 Jo) (.ref Ti) kVI dcI pmI anI cdI ctI),slI⟩) (ic:PySem.W.codeIn K cdI "JumpError.__init__"=true) (it:K.lookup Ti=some ⟨ocT,odT,.seq #[.none] nT,slT⟩)
  {nd12:Nat} {tk12:Tok} {otd12:Value} {odd12:Option Addr} {sld12:Array (Option Value)} (dl12:K.lookup td12=some ⟨otd12,odd12,.seq #[.int 100 tk12] nd12,sld12⟩)
  :∃t:Adr,Tx K mg t∧t.a_law=f31∧∀(s:Shared) (v:Value),BindsTo s t.d_law ⟨[v],[]⟩ [("_law_script",v)]:=by
 have F0:=Y0 (st:=X0) l0 c0 k0
 have F1:=Y0 (st:=Sm) l1 c1 k1
 have F2:=Y0 (st:=Sn) l2 c2 k2
 have F3:=Y0 (st:=V4) l3 c3 k3
 have F4:=Y0 (st:=Wx) l4 c4 k4
 have F5:=Y0 (st:=Y9) l5 c5 k5
 have F6:=Y0 (st:=Zx) l6 c6 k6
 have F7:=Y0 (st:=Xn) l7 c7 k7
 have F8:=Y0 (st:=Xa) l8 c8 k8
 have F9:=Y0 (st:=Yv) l9 c9 k9
 have F10:=Y0 (st:=Yx) l10 c10 k10
 have F11:=Y0 (st:=W0) l11 c11 k11
 have F12:=Y0 (st:=Ja) l12 c12 k12
 have F13:=Y0 (st:=Xv) l13 c13 k13
 have F14:=Y0 (st:=Wu) l14 c14 k14
 have F15:=Y0 (st:=W1) l15 c15 k15
 have F16:=Y0 (st:=Xu) l16 c16 k16
 have F17:=Y0 (st:=Yy) l17 c17 k17
 have F18:=Y0 (st:=So) l18 c18 k18
 have F19:=Y0 (st:=Ws) l19 c19 k19
 have F20:=Y0 (st:=X9) l20 c20 k20
 have F21:=Y0 (st:=Xz) l21 c21 k21
 have F22:=Y0 (st:=Zz) l22 c22 k22
 have F23:=Y0 (st:=Xq) l23 c23 k23
 have F24:=Y0 (st:=Yn) l24 c24 k24
 have F25:=Y0 (st:=Xp) l25 c25 k25
 have F26:=Y0 (st:=Yk) l26 c26 k26
 have F27:=Y0 (st:=Yz) l27 c27 k27
 have F28:=Y0 (st:=V2) l28 c28 k28
 have F29:=Y0 (st:=Wt) l29 c29 k29
 have F30:=Y0 (st:=Xs) l30 c30 k30
 have F31:=Y0 (st:=J0) l31 c31 k31
 exact⟨⟨f0,_,f1,_,f2,_,f3,_,f4,_,f5,_,f6,_,f7,_,f8,_,f9,_,f10,_,f11,_,f12,_,f13,_,f14,_,f15,_,f16,_,f17,_,f18,_,f19,_,f20,_,f21,_,f22,_,f23,_,f24,_,f25,_,f26,_,f27,_,f28,_,f29,_,f30,_,f31,_,c_JumpError,c_ByNought,fi,_⟩,⟨F0,PySem.W.mg_of X G a0,k0,.all (Xl (fun _ _=>rfl)),
  F1,PySem.W.mg_of X G a1,k1,.all (Xl (fun _ _=>rfl)),
  F2,PySem.W.mg_of X G a2,k2,.all (Vx (fun _ _ _=>rfl)),
  F3,PySem.W.mg_of X G a3,k3,.all (Vx (fun _ _ _=>rfl)),
  F4,PySem.W.mg_of X G a4,k4,.all (Xl (fun _ _=>rfl)),
  F5,PySem.W.mg_of X G a5,k5,.all (Zx0 (fun _ _ _ _ _=>rfl)),
  F6,PySem.W.mg_of X G a6,k6,.all (Pc (fun _ _ _ _=>rfl)),
  F7,PySem.W.mg_of X G a7,k7,.all (Vx (fun _ _ _=>rfl)),
  F8,PySem.W.mg_of X G a8,k8,.all (Xl (fun _ _=>rfl)),
  F9,PySem.W.mg_of X G a9,k9,.all (Pc (fun _ _ _ _=>rfl)),
  F10,PySem.W.mg_of X G a10,k10,.all (Xl (fun _ _=>rfl)),
  F11,PySem.W.mg_of X G a11,k11,.all (S9 (fun _=>rfl)),
  F12,PySem.W.mg_of X G a12,k12,Fy (n:=3) (fun s KX=>Vx fun _ _ _=>PySem.W.binds_K KX rfl dl12 rfl rfl rfl) rfl,⟨tk12,Z68 (n:=2) (fun s KX=>Xl fun _ _=>PySem.W.binds_K KX rfl dl12 rfl rfl rfl) rfl⟩,
  F13,PySem.W.mg_of X G a13,k13,.all (S9 (fun _=>rfl)),
  F14,PySem.W.mg_of X G a14,k14,.all (S9 (fun _=>rfl)),
  F15,PySem.W.mg_of X G a15,k15,.all (S9 (fun _=>rfl)),
  F16,PySem.W.mg_of X G a16,k16,.all (S9 (fun _=>rfl)),
  F17,PySem.W.mg_of X G a17,k17,.all (Xl (fun _ _=>rfl)),
  F18,PySem.W.mg_of X G a18,k18,.all (Pc (fun _ _ _ _=>rfl)),
  F19,PySem.W.mg_of X G a19,k19,.all (Xl (fun _ _=>rfl)),
  F20,PySem.W.mg_of X G a20,k20,.all (Xl (fun _ _=>rfl)),
  F21,PySem.W.mg_of X G a21,k21,.all (Xl (fun _ _=>rfl)),
  F22,PySem.W.mg_of X G a22,k22,.all (Xl (fun _ _=>rfl)),
  F23,PySem.W.mg_of X G a23,k23,.all (Xl (fun _ _=>rfl)),
  F24,PySem.W.mg_of X G a24,k24,.all (Pc (fun _ _ _ _=>rfl)),
  F25,PySem.W.mg_of X G a25,k25,.all (Vx (fun _ _ _=>rfl)),
  F26,PySem.W.mg_of X G a26,k26,.all (Vx (fun _ _ _=>rfl)),
  F27,PySem.W.mg_of X G a27,k27,.all (Vx (fun _ _ _=>rfl)),
  F28,PySem.W.mg_of X G a28,k28,.all (Vx (fun _ _ _=>rfl)),
  F29,PySem.W.mg_of X G a29,k29,.all (Pc (fun _ _ _ _=>rfl)),
  F30,PySem.W.mg_of X G a30,k30,.all (Xl (fun _ _=>rfl)),
  F31,PySem.W.mg_of X G a31,k31,.all (S9 (fun _=>rfl)),
  PySem.W.mg_none_of X G z0,
  PySem.W.mg_none_of X G z1,
  PySem.W.mg_none_of X G z2,
  PySem.W.mg_none_of X G z3,
  PySem.W.mg_none_of X G z4,
  PySem.W.mg_none_of X G z5,
  PySem.W.mg_none_of X G z6,
  PySem.W.mg_none_of X G z7,
  PySem.W.mg_none_of X G z8,
  PySem.W.mg_none_of X G z9,
  PySem.W.mg_none_of X G z10,
  PySem.W.mg_none_of X G z11,
  PySem.W.mg_of X G n0,
  PySem.W.mg_of X G n1,
  Zg4 xl0 xa0 xb0 xc0,
  Z96 xl0 xd0 xe0,
  ⟨(mro4 xl0).imp fun _ h=>⟨h.1,h.2.1⟩,xd0,xf0,xg0,xh0⟩,
  ⟨(mro4 xl0).imp fun _ h=>⟨h.1,h.2.1⟩,xf0,xg0,xh0,xi0,w0,w1,xj0⟩,
  ⟨w2,w3,w4,xk0⟩,
  ⟨xm0,xn0,xh0,xo0⟩,
  y0_0,
  y0_1,
  y0,
  fun P w mg base=>Zo2 il ic Zq5 Zv3 rfl rfl,
  Z68 (n:=1) (fun s KX=>S9 fun _=>PySem.W.binds_K KX rfl it rfl rfl rfl) rfl,
  Fy (n:=2) (fun s KX=>Xl fun _ _=>PySem.W.binds_K KX rfl it rfl rfl rfl) rfl⟩,rfl,fun s v=> .of_eq rfl⟩
end K09
namespace UB
open PySem PySem.Builtin
theorem Za3(a b:Nat):(a&&&b) % 2=(a % 2) * (b % 2):=by
 have h:=Nat.testBit_and a b 0
 rw[Nat.testBit_zero,Nat.testBit_zero,Nat.testBit_zero,Bool.eq_iff_iff,Bool.and_eq_true,decide_eq_true_iff,decide_eq_true_iff,decide_eq_true_iff] at h
 rcases Nat.mod_two_eq_zero_or_one a with ha | ha<;>rcases Nat.mod_two_eq_zero_or_one b with hb | hb<;>rw[ha,hb] at h ⊢ <;>omega
theorem Zk2(a b:Nat):(a ||| b) % 2+(a % 2) * (b % 2)=a % 2+b % 2:=by
 have h:=Nat.testBit_or a b 0
 rw[Nat.testBit_zero,Nat.testBit_zero,Nat.testBit_zero,Bool.eq_iff_iff,Bool.or_eq_true,decide_eq_true_iff,decide_eq_true_iff,decide_eq_true_iff] at h
 rcases Nat.mod_two_eq_zero_or_one a with ha | ha<;>rcases Nat.mod_two_eq_zero_or_one b with hb | hb<;>rw[ha,hb] at h ⊢ <;>omega
theorem Za2(a b:Nat):(a ^^^ b) % 2+2 * ((a % 2) * (b % 2))=a % 2+b % 2:=by
 have h:=Nat.testBit_xor a b 0
 rw[Nat.testBit_zero,Nat.testBit_zero,Nat.testBit_zero] at h
 rcases Nat.mod_two_eq_zero_or_one a with ha | ha<;>rcases Nat.mod_two_eq_zero_or_one b with hb | hb<;>rw[ha,hb] at h ⊢ <;>(first | (have h2:=of_decide_eq_true h;omega) | (have h2:=of_decide_eq_false h;omega))
theorem Na(n:Nat):∀a b:Nat,a<2 ^ n→b<2 ^ n→(a ||| b)+(a&&&b)=a+b∧(a ^^^ b)+2 * (a&&&b)=a+b:=by
 induction n with
 | zero=>
  intro a b ha hb
  have:a=0:=by simpa using ha
  have:b=0:=by simpa using hb
  subst a b
  decide
 | succ n ih=>
  intro a b ha hb
  have h1:a / 2<2 ^ n:=by rw[Nat.pow_succ] at ha;omega
  have h2:b / 2<2 ^ n:=by rw[Nat.pow_succ] at hb;omega
  obtain⟨i1,i2⟩:=ih (a / 2) (b / 2) h1 h2
  have d1:(a&&&b) / 2=a / 2&&&b / 2:=Nat.and_div_two
  have d2:(a ||| b) / 2=a / 2 ||| b / 2:=Nat.or_div_two
  have d3:(a ^^^ b) / 2=a / 2 ^^^ b / 2:=Nat.xor_div_two
  have m1:=Za3 a b
  have m2:=Zk2 a b
  have m3:=Za2 a b
  rw[←d1,←d2] at i1
  rw[←d1,←d3] at i2
  generalize (a % 2) * (b % 2)=p at *
  omega
theorem Zx9(a b:Nat):(a ||| b)+(a&&&b)=a+b:=by
 refine(Na (a+b) a b ?_ ?_).1
 ·exact Nat.lt_of_le_of_lt (Nat.le_add_right a b) Nat.lt_two_pow_self
 ·exact Nat.lt_of_le_of_lt (Nat.le_add_left b a) Nat.lt_two_pow_self
theorem Qf(a b:Nat):(a ^^^ b)+2 * (a&&&b)=a+b:=by
 refine(Na (a+b) a b ?_ ?_).2
 ·exact Nat.lt_of_le_of_lt (Nat.le_add_right a b) Nat.lt_two_pow_self
 ·exact Nat.lt_of_le_of_lt (Nat.le_add_left b a) Nat.lt_two_pow_self
noncomputable def mag(x:Int):Nat:=if x<0 then(-1 - x).toNat else x.toNat
theorem mag_pos{x:Int}(h:0≤x):mag x=x.toNat:=if_neg (by omega)
theorem mag_neg{x:Int}(h:x<0):mag x=(bitNot x).toNat:=by
 unfold mag;rw[if_pos h];unfold bitNot;congr 1;omega
theorem Z54{x y:Int}(hx:0≤x)(hy:0≤y):bitAnd x y=((mag x&&&mag y:Nat):Int):=by
 unfold bitAnd;rw[decide_eq_true hx,decide_eq_true hy,mag_pos hx,mag_pos hy]
theorem Fh{x y:Int}(hx:0≤x)(hy:y<0):bitAnd x y=((mag x ^^^ (mag x&&&mag y):Nat):Int):=by
 unfold bitAnd;rw[decide_eq_true hx,decide_eq_false (by omega:¬0≤y),←mag_neg hy]
 show x - ((x.toNat&&&mag y:Nat):Int)=_
 rw[←mag_pos hx]
 have h:=Qf (mag x) (mag x&&&mag y)
 have e:mag x&&&(mag x&&&mag y)=mag x&&&mag y:=by rw[←Nat.and_assoc,Nat.and_self]
 rw[e] at h
 have:((mag x:Nat):Int)=x:=by rw[mag_pos hx];omega
 omega
theorem Za0{x y:Int}(hx:x<0)(hy:0≤y):bitAnd x y=((mag y ^^^ (mag y&&&mag x):Nat):Int):=by
 rw[←Fh hy hx]
 unfold bitAnd;rw[decide_eq_true hy,decide_eq_false (by omega:¬0≤x)]
theorem Z30{x y:Int}(hx:x<0)(hy:y<0):bitAnd x y= -1 - ((mag x ||| mag y:Nat):Int):=by
 unfold bitAnd;rw[decide_eq_false (by omega:¬0≤x),decide_eq_false (by omega:¬0≤y),←mag_neg hx,←mag_neg hy]
 show bitNot _=_
 unfold bitNot;omega
theorem V1(x:Int):mag (bitNot x)=mag x:=by
 unfold mag bitNot
 by_cases h:x<0
 ·rw[if_pos h,if_neg (by omega)];congr 1;omega
 ·rw[if_neg h,if_pos (by omega)];congr 1;omega
theorem xor_p{x y:Int}(h:(0≤x∧0≤y)∨(x<0∧y<0)):bitXor x y=((mag x ^^^ mag y:Nat):Int):=by
 unfold bitXor bitOr
 have a1:=Zx9 (mag x) (mag y)
 have a2:=Qf (mag x) (mag y)
 rcases h with⟨hx,hy⟩ | ⟨hx,hy⟩
 ·rw[Z30 (x:=bitNot x) (y:=bitNot y) (by unfold bitNot;omega) (by unfold bitNot;omega),Z54 hx hy,V1,V1]
  unfold bitNot;omega
 ·rw[Z54 (x:=bitNot x) (y:=bitNot y) (by unfold bitNot;omega) (by unfold bitNot;omega),Z30 hx hy,V1,V1]
  unfold bitNot;omega
theorem xor_n{x y:Int}(h:(0≤x∧y<0)∨(x<0∧0≤y)):bitXor x y= -1 - ((mag x ^^^ mag y:Nat):Int):=by
 unfold bitXor bitOr
 have a2:=Qf (mag x) (mag y)
 have e:mag y&&&mag x=mag x&&&mag y:=Nat.and_comm _ _
 have h1:=Qf (mag x) (mag x&&&mag y)
 have e1:mag x&&&(mag x&&&mag y)=mag x&&&mag y:=by rw[←Nat.and_assoc,Nat.and_self]
 have h2:=Qf (mag y) (mag x&&&mag y)
 have e2:mag y&&&(mag x&&&mag y)=mag x&&&mag y:=by rw[Nat.and_comm (mag x),←Nat.and_assoc,Nat.and_self]
 rw[e1] at h1
 rw[e2] at h2
 rcases h with⟨hx,hy⟩ | ⟨hx,hy⟩
 ·rw[Za0 (x:=bitNot x) (y:=bitNot y) (by unfold bitNot;omega) (by unfold bitNot;omega),Fh hx hy,V1,V1,e]
  unfold bitNot;omega
 ·rw[Fh (x:=bitNot x) (y:=bitNot y) (by unfold bitNot;omega) (by unfold bitNot;omega),Za0 hx hy,V1,V1,e]
  unfold bitNot;omega
theorem Ef{x:Int}{n:Nat}(h1:-(2 ^ n:Nat)≤x)(h2:x< (2 ^ n:Nat)):mag x<2 ^ n:=by
 unfold mag;split<;>omega
theorem range_and{x y:Int}{n:Nat}(h1:-(2 ^ n:Nat)≤x)(h2:x< (2 ^ n:Nat))(h3:-(2 ^ n:Nat)≤y)(h4:y< (2 ^ n:Nat)):
  -(2 ^ n:Nat)≤bitAnd x y∧bitAnd x y< (2 ^ n:Nat):=by
 have a:=Ef h1 h2
 have b:=Ef h3 h4
 rcases Int.lt_or_le x 0 with hx | hx<;>rcases Int.lt_or_le y 0 with hy | hy
 ·rw[Z30 hx hy];have:=Nat.or_lt_two_pow a b;omega
 ·rw[Za0 hx hy];have:=Nat.xor_lt_two_pow b (Nat.and_lt_two_pow (mag y) a);omega
 ·rw[Fh hx hy];have:=Nat.xor_lt_two_pow a (Nat.and_lt_two_pow (mag x) b);omega
 ·rw[Z54 hx hy];have:=Nat.and_lt_two_pow (mag x) b;omega
theorem range_xor{x y:Int}{n:Nat}(h1:-(2 ^ n:Nat)≤x)(h2:x< (2 ^ n:Nat))(h3:-(2 ^ n:Nat)≤y)(h4:y< (2 ^ n:Nat)):
  -(2 ^ n:Nat)≤bitXor x y∧bitXor x y< (2 ^ n:Nat):=by
 have a:=Nat.xor_lt_two_pow (Ef h1 h2) (Ef h3 h4)
 rcases Int.lt_or_le x 0 with hx | hx<;>rcases Int.lt_or_le y 0 with hy | hy
 ·rw[xor_p (.inr ⟨hx,hy⟩)];omega
 ·rw[xor_n (.inr ⟨hx,hy⟩)];omega
 ·rw[xor_n (.inl ⟨hx,hy⟩)];omega
 ·rw[xor_p (.inl ⟨hx,hy⟩)];omega
end UB
namespace K09
open PySem PySem.Spec PyProof.Rows L2 L3 U
set_option hygiene false
local macro_rules | `(tactic| walk_at "go")=>do
 let ids:=("tss_nil tss_cons ts te tes teo tit tcd tbop tt op_add_i op_add_s op_add_t op_add_l op_sub_i op_mul_i op_mul_l op_fdiv_i op_mod_i op_pow_i op_and_i op_xor_i cm_lt_i cm_le_i cm_gt_i cm_ge_i cm_eq cm_ne cm_in cm_notin cm_is_n cm_is_i cm_is_s cm_is_b cm_is_t cm_is_r eq_i eq_s eq_b eq_nn eq_is eq_si tru_b tru_i tru_n tru_t ix_t ix_g ix_s sl_s sl_t sl_l is_non is_bl is_int is_str is_tup tyNon tyBl tyInt tyStr tyTup tyLst tyDct bf_len_t bf_len_s bf_is bf_min bf_max bf_list bf_dict bf_int at2_xy onRef_r mt_append_r mt_get2_r mt_pop_r mk_append mk_pop mk_get2 tg_one tg_two it_r it_t it_g key_i key_s in_ss start0 List.map_cons List.map_nil List.length_cons List.length_nil List.cons_append List.nil_append List.append_nil List.replicate List.set_cons_zero List.set_cons_succ List.getElem?_cons_zero List.getElem?_cons_succ Nat.reduceAdd Nat.reduceSub Nat.sub_self Nat.zero_add decide_eq_true_eq ne_eq Int.reduceEq not_false_eq_true true_and Bool.not_eq_true' decide_eq_false_iff_not Bool.false_eq_true Bool.true_eq_false if_true if_false Bool.not_true Bool.not_false".splitOn " ").toArray.map fun s=>Lean.mkIdent s.toName
 let gs ←(Array.range 28).mapM fun i=>`(tactic| try simp only[$(Lean.mkIdent (Lean.Name.mkSimple s!"g{i}")):ident])
 `(tactic| ((try dsimp only[$[$ids:ident],*]);(try simp only[$[$ids:ident],*]);$[$gs:tactic];*))
local macro_rules | `(tactic| walk_at "ev")=>`(tactic| (walk_at "go";repeat (with_reducible refine Yc ?_;walk_at "go")))
def Kp(M M':Z1):Prop:=∃N,M'=M++N
theorem Kp.refl(M:Z1):Kp M M:=⟨[],(List.append_nil M).symm⟩
theorem Kp.app{M M':Z1}(h:Kp M M')(N:Z1):Kp M (M'++N):=by obtain⟨L,rfl⟩:=h;exact⟨L++N,by rw[List.append_assoc]⟩
theorem Kp.trans{M M' M2:Z1}(h:Kp M M')(g:Kp M' M2):Kp M M2:=by obtain⟨L,rfl⟩:=h;obtain⟨L2,rfl⟩:=g;exact⟨L++L2,by rw[List.append_assoc]⟩
theorem Kp.new(M N:Z1):Kp M (M++N):=⟨N,rfl⟩
theorem Kp.L{M M':Z1}{a:Nat}{xs:List D}(h:Kp M M')(e:Zg M a=some xs):Zg M' a=some xs:=by obtain⟨L,rfl⟩:=h;exact Zn e
theorem Kp.W{M M':Z1}{a:Nat}{xs:List D}(h:Kp M M')(e:Zi M a=some xs):Zi M' a=some xs:=by obtain⟨L,rfl⟩:=h;exact Ze e
theorem qm{i j:Int}(h:0<j):qmod i j=i % j:=Zh1 h
theorem Y23{xs:List D}{i:Int}{d:D}(h0:0≤i)(h:xs[i.toNat]?=some d):atI xs i=some d:=by
 have:=Rk h
 rwa[Int.toNat_of_nonneg h0] at this
theorem Y70{xs:List D}{i:Int}(h0:0≤i)(h:i<xs.length):∃d,atI xs i=some d∧d∈xs:=by
 have hl:i.toNat<xs.length:=by omega
 exact⟨xs[i.toNat],Y23 h0 (List.getElem?_eq_getElem hl),List.getElem_mem hl⟩
inductive Opd where
 | nm (x:Str) | no (i:Int)
noncomputable def Opd.d:Opd→D
 | .nm x=> .str x
 | .no i=> .int i
inductive Nd where
 | sum (x:Str) (a:Opd) (sg:Str) (b:Opd) (t:Nat) | test (a:Opd) (sg:Str) (b:Opd) (y n:Nat) | fin | spin
noncomputable def Nd.d:Nd→D
 | .sum x a sg b t=> .tup [.str "sum",.str x,a.d,.str sg,b.d,.int t]
 | .test a sg b y n=> .tup [.str "test",a.d,.str sg,b.d,.int y,.int n]
 | .fin=> .tup [.str "end"]
 | .spin=> .tup [.str "spin"]
noncomputable def Nd.gs:Nd→List Nat
 | .sum _ _ _ _ t=>[t]
 | .test _ _ _ y n=>[n,y]
 | .fin=>[]
 | .spin=>[]
noncomputable def Nd.to(f:Nat→Nat):Nd→Nd
 | .sum x a sg b t=> .sum x a sg b (f t)
 | .test a sg b y n=> .test a sg b (f y) (f n)
 | .fin=> .fin
 | .spin=> .spin
noncomputable def natD(l:List Nat):List D:=l.map fun(x:Nat)=>D.int (x:Int)
theorem Xo(l:List Nat):(natD l).length=l.length:=by unfold natD;simp
theorem Wm{l:List Nat}{k x:Nat}(h:l[k]?=some x):(natD l)[k]?=some (.int x):=by unfold natD;rw[List.getElem?_map,h];rfl
theorem Zk5(l m:List Nat):natD (l++m)=natD l++natD m:=by unfold natD;rw[List.map_append]
noncomputable def begD(B:List Nat):List (Key×D):=B.map fun(x:Nat)=>((Sum.inl (x:Int),D.bl true):Key×D)
theorem Zg2(B:List Nat):(begD B).length=B.length:=by unfold begD;simp
theorem Zt2(B:List Nat)(y:Nat):(valD (begD B) (Sum.inl (y:Int))).isSome=decide (y∈B):=by
 unfold valD begD
 induction B with
 | nil=>rfl
 | cons x r ih=>
  rw[List.map_cons,List.find?_cons]
  by_cases e:x=y
  ·subst e;simp
  ·have:decide ((Sum.inl (x:Int):Key)=Sum.inl (y:Int))=false:=by
    rw[decide_eq_false_iff_not];intro z;exact e (by have:=Sum.inl.inj z;omega)
   rw[this]
   simp only
   rw[ih]
   have e':¬y=x:=fun z=>e z.symm
   simp[e']
theorem Za9{B:List Nat}{y:Nat}(h:¬y∈B):putD (begD B) (Sum.inl (y:Int)) (.bl true)=begD (B++[y]):=by
 unfold putD
 rw[if_neg]
 try walk_at "ev"
 ·unfold begD;rw[List.map_append];rfl
 ·intro z
  obtain⟨kv,h1,h2⟩:=List.any_eq_true.mp z
  unfold begD at h1
  obtain⟨x,hx,rfl⟩:=List.mem_map.mp h1
  rw[decide_eq_true_eq] at h2
  have:=Sum.inl.inj h2
  have e:x=y:=by omega
  exact h (e ▸ hx)
noncomputable def numP(O:List Nat):List (Key×D):=O.mapIdx fun i (x:Nat)=>((Sum.inl (x:Int),D.int (i:Nat)):Key×D)
theorem Qb(O:List Nat)(y:Nat):numP (O++[y])=numP O++[(Sum.inl (y:Int),D.int (O.length:Nat))]:=by unfold numP;rw[List.mapIdx_append];simp
theorem Ot(O:List Nat):(numP O).length=O.length:=by unfold numP;simp
theorem Tc(m:List (Key×D))(k j:Key)(v:D):valD (putD m k v) j=if k=j then some v else valD m j:=by
 unfold putD
 split
 ·rename_i h
  unfold valD
  induction m with
  | nil=>simp at h
  | cons p r ih=>
   rw[List.map_cons,List.find?_cons,List.find?_cons]
   by_cases hp:p.1=k
   ·rw[if_pos hp]
    try walk_at "ev"
    by_cases hj:k=j
    ·subst hj;simp[hp]
    ·have:decide (p.1=j)=false:=by rw[decide_eq_false_iff_not,hp];exact hj
     simp only[this]
     rw[if_neg hj]
     try walk_at "ev"
     by_cases hr:(r.any fun kv=>decide (kv.1=k))=true
     ·have:=ih hr;rw[if_neg hj] at this;exact this
     ·have hn:r.map (fun kv=>if kv.1=k then(kv.1,v) else kv)=r:=by
       rw[List.map_congr_left (g:=id)]
       ·simp
       ·intro kv hkv
        rw[if_neg]
        try walk_at "ev"
        ·rfl
        ·intro z;exact hr (List.any_eq_true.mpr ⟨kv,hkv,by simpa using z⟩)
      rw[hn]
   ·rw[if_neg hp]
    try walk_at "ev"
    have hr:(r.any fun kv=>decide (kv.1=k))=true:=by simpa[hp] using h
    by_cases hj:p.1=j
    ·have:¬k=j:=fun z=>hp (hj.trans z.symm)
     simp[hj,this]
    ·simp only[hj,decide_false]
     exact ih hr
 ·rename_i h
  unfold valD
  rw[List.find?_append]
  by_cases hj:k=j
  ·subst hj
   have:m.find? (fun kv=>decide (kv.1=k))=none:=by
    rw[List.find?_eq_none]
    intro kv hkv z
    exact h (List.any_eq_true.mpr ⟨kv,hkv,z⟩)
   rw[this]
   simp
  ·rw[if_neg hj]
   try walk_at "ev"
   simp[hj]
theorem Pu(ps:List (Key×D))(p:Key×D):V6 (ps++[p])=putD (V6 ps) p.1 p.2:=by unfold V6;rw[List.foldl_append];rfl
theorem Om:∀(n:Nat) (O:List Nat),O.length=n→O.Nodup→∀x∈O,valD (V6 (numP O)) (Sum.inl (x:Int))=some (.int (O.idxOf x:Nat))
 | 0,O,h,_,x,hx=>by rw[List.length_eq_zero_iff.mp h] at hx;cases hx
 | n+1,O,h,nd,x,hx=>by
  have hne:O≠[]:=by rintro rfl;cases h
  obtain⟨O',y,rfl⟩:∃O' y,O=O'++[y]:=⟨O.dropLast,O.getLast hne,(List.dropLast_concat_getLast hne).symm⟩
  rw[List.length_append,List.length_singleton] at h
  have nd':=List.nodup_append.mp nd
  rw[Qb,Pu,Tc]
  by_cases e:y=x
  ·subst e
   rw[if_pos rfl]
   try walk_at "ev"
   have hn:y∉O':=fun z=>nd'.2.2 y z y (by simp) rfl
   rw[List.idxOf_append,if_neg hn]
   simp
  ·rw[if_neg (fun z=>e (by have:=Sum.inl.inj z;omega))]
   try walk_at "ev"
   have hx':x∈O':=(List.mem_append.mp hx).resolve_right (by rw[List.mem_singleton];exact fun z=>e z.symm)
   rw[Om n O' (by omega) nd'.1 x hx',List.idxOf_append,if_pos hx']
theorem Fv{xs:List D}{i:Nat}{d:D}(h:(N7 xs)[i]?=some d):∃x,xs[i]?=some x∧d= .tup [.int (i:Nat),x]:=by
 unfold N7 at h
 rw[List.getElem?_mapIdx,Option.map_eq_some_iff] at h
 obtain⟨x,h1,rfl⟩:=h
 exact⟨x,h1,rfl⟩
theorem Fx(xs:List D):(N7 xs).length=xs.length:=by unfold N7;simp
theorem Tb(l:List Nat)(x:Nat):natD (l++[x])=natD l++[.int (x:Nat)]:=Zk5 _ _
theorem V7{α:Type}{l:List α}{i:Nat}{x:α}(h:l[i]?=some x):l.take (i+1)=l.take i++[x]:=by
 obtain⟨h1,h2⟩:=List.getElem?_eq_some_iff.mp h
 rw[←h2]
 exact List.take_succ_eq_append_getElem h1
inductive Rw where
 | sum (k:Nat) (x:Str) (a:Opd) (sg:Str) (b:Opd) | test (k:Nat) (a:Opd) (sg:Str) (b:Opd) (g:Nat) | jump (k g:Nat) | fin (k:Nat)
noncomputable def Rw.d:Rw→D
 | .sum k x a sg b=> .tup [.int k,.str "sum",.str x,a.d,.str sg,b.d]
 | .test k a sg b g=> .tup [.int k,.str "test",a.d,.str sg,b.d,.int g]
 | .jump k g=> .tup [.int k,.str "jump",.int g]
 | .fin k=> .tup [.int k,.str "end"]
def JOf(rows:List Rw)(pl:List (Key×D))(J:Nat→Option Nat):Prop:=∀p r,rows[p]?=some r→match r with
 | Rw.jump _ g=>∃q,J p=some q∧q<rows.length∧valD pl (Sum.inl (g:Int))=some (D.int (q:Nat))
 | _=>J p=none
def LanD(kvs:List (Key×D))(m:Nat→Option Nat):Prop:=∀p:Nat,valD kvs (Sum.inl (p:Int))=(m p).map fun(g:Nat)=>D.int (g:Int)
theorem LanD.put{kvs:List (Key×D)}{m:Nat→Option Nat}(h:LanD kvs m)(p g:Nat):LanD (putD kvs (Sum.inl (p:Int)) (.int (g:Nat))) (fun x=>if x=p then some g else m x):=by
 intro x
 rw[Tc]
 by_cases e:x=p
 ·subst e;rw[if_pos rfl];show _=Option.map _ (if x=x then some g else m x);rw[if_pos rfl];rfl
 ·rw[if_neg (fun z=>e (by have:=Sum.inl.inj z;omega))];show _=Option.map _ (if x=p then some g else m x);rw[if_neg e];exact h x
  try walk_at "ev"
theorem Ft(m:List (Key×D))(k:Key)(v:D):(putD m k v).length≤m.length+1:=by
 unfold putD
 split
 ·rw[List.length_map];omega
 ·rw[List.length_append,List.length_singleton];exact Nat.le_refl _
def Z7:DSp:=fun ds M Q _=>∃(a b:Nat) (rows:List Rw) (pl:List (Key×D)) (J:Nat→Option Nat),ds=[.ref a,.ref b]∧Zg M a=some (rows.map Rw.d)∧Zd M b=some pl∧rows.length≤2000∧JOf rows pl J∧
 ∀kvs m M',LanD kvs m→LN.Ln J rows.length m→(∀p,p<rows.length→(m p).isSome=true)→Kp M M'→Zd M' M.length=some kvs→Q (.ref M.length) M'
theorem Bq{α:Type}{o:Option α}{x:α}(h:o=some x):o.isSome=true:=by rw[h];rfl
theorem Ze8(M N:Z1)(k:Nat):(M++N)[M.length+k]?=N[k]?:=by rw[List.getElem?_append_right (by omega),Nat.add_sub_cancel_left]
section
variable{K:PySem.W.Frag}
theorem Bg{Γ G}:∀ds M Q Z,Z7 ds M Q Z→tss ⟨K,Γ,G⟩ noX b_landings {nx:=fun _ M=>Q .non M,rt:=Q} (start0 Vj ds) M:=by
 rintro ds M Q Z ⟨a,b,rows,pl,J,rfl,ha,hb,hn,hJ,q⟩
 simp only[b_landings,Vj]
 walk_at "ev"
 refine Yq (Zn ha) ⟨by omega,by rw[List.length_map];omega,?_⟩
 try walk_at "ev"
 rw[Int.toNat_natCast,List.length_map]
 refine Wd (fun i σ M'=>∃kvs m N d3 d4 d5 d6 d7,σ=[some (.ref a),some (.ref b),some (.ref M.length),d3,d4,d5,d6,d7]∧M'=M++ .dct kvs::N∧LanD kvs m∧LN.Ln J rows.length m∧(∀p,p<i→(m p).isSome=true)∧kvs.length≤i * 3000)
  ⟨[],fun _=>none,[],none,none,none,none,none,rfl,rfl,fun p=>rfl,(fun p g h=>by cases h),(fun p h=>by omega),Nat.zero_le _⟩ ?_ ?_
 ·rintro i σ M' C hi ⟨kvs,m,N,d3,d4,d5,d6,d7,rfl,rfl,lan,ln,tot,hk⟩ hC
  have hrow:∀p,p<rows.length→∃r,rows[p]?=some r:=fun p hp=>⟨_,List.getElem?_eq_getElem hp⟩
  simp only[Sd,Int.zero_add]
  walk_at "ev"
  rw[List.append_assoc,List.cons_append]
  have el:(M++ .dct kvs::N).length=M.length+(N.length+1):=by simp
  rw[el]
  have rdP:∀kv c,Zd (M++ .dct kv::(N++[.dct c])) (M.length+(N.length+1))=some c:=fun kv c=>by rw[Bj];exact Yo N _ []
  have rdL:∀kv N',Zd (M++ .dct kv::N') M.length=some kv:=fun kv N'=>Yo _ _ _
  refine⟨fun w σ M'=>∃(P:List Nat) (p:Nat),w=rows.length - P.length∧σ=[some (.ref a),some (.ref b),some (.ref M.length),some (.int (i:Nat)),some (.ref (M.length+(N.length+1))),some (.int (p:Nat)),d6,d7]∧M'=M++ .dct kvs::(N++[.dct (begD P)])∧LN.Lk J i P p∧P.Nodup∧(∀x∈P,x<rows.length∧m x=none)∧p<rows.length,
   ⟨_,[],i,rfl,rfl,rfl,rfl,by simp,by simp,hi⟩,?_⟩
  rintro w σ M' ⟨P,p,rfl,rfl,rfl,lk,nd,hP,hp⟩
  have hPl:P.length≤rows.length:=ND.Qa rows.length P nd fun x hx=>(hP x hx).1
  have hkb:kvs.length≤6000000:=by
   have:i * 3000≤2000 * 3000:=Nat.mul_le_mul_right _ (by omega)
   omega
  obtain⟨r,hr⟩:=hrow p hp
  have stop:∀bk,((m p).isSome=true∨p∈P∨J p=none)→tss ⟨K,Γ,G⟩ noX Wv {nx:=C,rt:=Q,bk:=bk,ct:=C} [some (.ref a),some (.ref b),some (.ref M.length),some (.int (i:Nat)),some (.ref (M.length+(N.length+1))),some (.int (p:Nat)),d6,d7] (M++ .dct kvs::(N++[.dct (begD P)])):=by
   intro bk hs
   obtain⟨l1,l2,l3⟩:=ln.land lk hP hp hs
   simp only[Wv]
   walk_at "ev"
   refine⟨Bq (rdL _ _),kvs,_,rdL _ _,rfl,?_⟩
   try walk_at "ev"
   have eg:((valD kvs (Sum.inl (p:Int))).getD (.int (p:Nat)))= .int ((m p).getD p:Nat):=by rw[lan p];cases m p<;>rfl
   rw[eg]
   generalize hg:(m p).getD p=g at l1 l2 l3
   refine .inr ⟨kvs,_,rdL _ _,rfl,Zl (by omega),?_⟩
   try walk_at "ev"
   rw[W5]
   refine⟨begD P,rdP _ _,?_⟩
   try walk_at "ev"
   have fz:∀kv,(M++ .dct kv::(N++[.fdc (begD P)]):Z1)[M.length+(N.length+1)]?=some (.fdc (begD P)):=fun kv=>by rw[Ze8,List.getElem?_cons_succ,Gx]
   have sz:∀kv c,(M++ .dct kv::(N++[c]):Z1).set (M.length+(N.length+1)) (.fdc (begD P))=M++ .dct kv::(N++[.fdc (begD P)]):=fun kv c=>by rw[Sx,List.set_cons_succ,W5]
   have st:∀kv,(M++ .dct kv::(N++[.fdc (begD P)]):Z1).set (M.length+(N.length+1)) (.dct (begD P))=M++ .dct kv::(N++[.dct (begD P)]):=fun kv=>by rw[Sx,List.set_cons_succ,W5]
   have eK:Og (begD P)=natD P:=by unfold Og begD natD;rw[List.map_map];rfl
   rw[sz,eK]
   refine S3 (fun j σ M'=>∃kv d7,σ=[some (.ref a),some (.ref b),some (.ref M.length),some (.int (i:Nat)),some (.ref (M.length+(N.length+1))),some (.int (p:Nat)),some (.int (g:Nat)),d7]∧M'=M++ .dct kv::(N++[.fdc (begD P)])∧LanD kv (LN.land m (P.take j) p g)∧kv.length≤kvs.length+1+j)
    ⟨_,d7,rfl,rfl,?_,by have:=Ft kvs (Sum.inl (p:Int)) (.int (g:Nat));omega⟩ ?_ ?_ ?_
   ·have:=lan.put p g
    intro x
    have h2:=this x
    unfold LN.land
    rw[List.take_zero,if_neg (by simp)]
    exact h2
   ·rintro j σ M' _ ⟨kv,d7,rfl,rfl,_⟩
    exact⟨begD P,fz _,eK.symm⟩
   ·rintro j dx σ M' C2 hx ⟨kv,d7,rfl,rfl,lan2,hk2⟩ hC2
    have hj:j<P.length:=by have:=(List.getElem?_eq_some_iff.mp hx).1;rwa[Xo] at this
    have hgj:P[j]?=some P[j]:=List.getElem?_eq_getElem hj
    generalize P[j]=y at hgj
    rw[Wm hgj] at hx
    cases hx
    simp only[Sh]
    walk_at "ev"
    refine .inr ⟨kv,_,rdL _ _,rfl,Zl (by omega),?_⟩
    try walk_at "ev"
    rw[W5]
    refine hC2 _ _ ⟨_,_,rfl,rfl,fun x=>?_,by have:=Ft kv (Sum.inl (y:Int)) (.int (g:Nat));omega⟩
    try walk_at "ev"
    rw[lan2.put y g x,V7 hgj]
    congr 1
    unfold LN.land
    try dsimp only
    by_cases ex:x=y
    ·subst ex;rw[if_pos rfl,if_pos (by simp)]
    ·rw[if_neg ex]
     try walk_at "ev"
     have:(x∈P.take j++[y])↔x∈P.take j:=by simp[ex]
     simp only[this]
   ·rintro σ M' ⟨kv,d7,rfl,rfl,lan2,hk2⟩
    rw[Xo] at lan2 hk2
    rw[List.take_length] at lan2
    refine⟨begD P,fz _,?_⟩
    try walk_at "ev"
    rw[st]
    refine hC _ _ ⟨kv,_,_,_,_,_,_,_,rfl,rfl,lan2,l1,fun x hx=>?_,by rw[Nat.add_mul];omega⟩
    try walk_at "ev"
    by_cases ex:x=i
    ·subst ex;exact l2
    ·exact l3 x (tot x (by omega))
  walk_at "ev"
  refine .inr ⟨kvs,_,rdL _ _,rfl,?_⟩
  try walk_at "ev"
  rw[lan p,Option.isSome_map]
  try dsimp only
  cases hm:(m p).isSome with
  | true=>
   rw[if_neg (by decide)]
   try walk_at "ev"
   try rw[if_neg (by decide)]
   exact stop _ (.inl hm)
  | false=>
   rw[if_pos rfl]
   try walk_at "ev"
   refine .inr ⟨begD P,_,rdP _ _,rfl,?_⟩
   try walk_at "ev"
   rw[Zt2]
   try dsimp only
   by_cases hpP:p∈P
   ·rw[decide_eq_true hpP,if_neg (by decide)]
    try rw[if_neg (by decide)]
    exact stop _ (.inr (.inl hpP))
   ·rw[decide_eq_false hpP,if_pos rfl]
    refine ix_l (k:=p) (Zn ha) (by rw[List.getElem?_map,hr];rfl) ?_
    have hJp:=hJ p r hr
    cases r with
    | jump k g=>
     obtain⟨q',j1,j2,j3⟩:=hJp
     refine⟨_,rfl,?_⟩
     walk_at "ev"
     simp only[S7]
     walk_at "ev"
     have hm':m p=none:=by cases e:m p with
      | none=>rfl
      | some _=>rw[e] at hm;cases hm
     have nd':(P++[p]).Nodup:=List.nodup_append.mpr ⟨nd,by simp,fun a ha c hc=>by rw[List.mem_singleton] at hc;subst hc;exact fun e=>hpP (e ▸ ha)⟩
     have hP':∀x∈P++[p],x<rows.length∧m x=none:=fun x hx=>by
      rcases List.mem_append.mp hx with hx | hx
      ·exact hP x hx
      ·rw[List.mem_singleton] at hx;subst hx;exact⟨hp,hm'⟩
     have hl':=ND.Qa rows.length (P++[p]) nd' fun x hx=>(hP' x hx).1
     rw[List.length_append,List.length_singleton] at hl'
     refine .inr ⟨begD P,_,rdP _ _,rfl,by rw[Zg2];exact Zl (by omega),?_⟩
     try walk_at "ev"
     rw[Za9 hpP,Sx,List.set_cons_succ,W5]
     refine ix_l (k:=p) (Zn ha) (by rw[List.getElem?_map,hr];rfl) ?_
     refine⟨_,rfl,?_⟩
     try walk_at "ev"
     refine ix_d (Y4 hb) rfl j3 ?_
     try walk_at "ev"
     exact⟨_,by rw[List.length_append,List.length_singleton];omega,P++[p],q',rfl,rfl,rfl,lk.snoc j1,nd',hP',j2⟩
    | sum k x o1 sg o2=>
     refine⟨_,rfl,?_⟩
     walk_at "ev"
     rw[if_neg (by decide+kernel)]
     try walk_at "ev"
     exact stop _ (.inr (.inr hJp))
    | test k o1 sg o2 g=>
     refine⟨_,rfl,?_⟩
     walk_at "ev"
     rw[if_neg (by decide+kernel)]
     try walk_at "ev"
     exact stop _ (.inr (.inr hJp))
    | fin k=>
     refine⟨_,rfl,?_⟩
     walk_at "ev"
     rw[if_neg (by decide+kernel)]
     try walk_at "ev"
     exact stop _ (.inr (.inr hJp))
 ·rintro σ M' ⟨kvs,m,N,d3,d4,d5,d6,d7,rfl,rfl,lan,ln,tot,hk⟩
  simp only[Sj]
  walk_at "ev"
  exact q kvs m _ lan ln tot (Kp.new _ _) (Yo _ _ _)
end
noncomputable def Rw.num:Rw→Nat
 | .sum k _ _ _ _=>k
 | .test k _ _ _ _=>k
 | .jump k _=>k
 | .fin k=>k
noncomputable def Vp(rows:List Rw)(g:Nat):Nat:=(rows.map Rw.num).idxOf g
noncomputable def jmp(rows:List Rw)(p:Nat):Option Nat:=match rows[p]? with
 | some (.jump _ g)=>some (Vp rows g)
 | _=>none
noncomputable def Rw.node(rows:List Rw)(L:Nat→Nat)(p:Nat):Rw→Nd
 | .sum _ x a sg b=> .sum x a sg b (L (p+1))
 | .test _ a sg b g=> .test a sg b (L (Vp rows g)) (L (p+1))
 | .jump _ _=> .spin
 | .fin _=> .fin
noncomputable def Rw.goal:Rw→Option Nat
 | .test _ _ _ _ g=>some g
 | .jump _ g=>some g
 | _=>none
noncomputable def Rw.goes:Rw→Bool
 | .sum _ _ _ _ _=>true
 | .test _ _ _ _ _=>true
 | _=>false
structure RwOk(rows:List Rw):Prop where
 pos:0<rows.length
 small:rows.length≤2000
 nd:(rows.map Rw.num).Nodup
 goal:∀r∈rows,∀g,r.goal=some g→g∈rows.map Rw.num
 last:∀p r,rows[p]?=some r→r.goes=true→p+1<rows.length
structure Lands(rows:List Rw)(L:Nat→Nat):Prop where
 lt:∀p,p<rows.length→L p<rows.length
 no:∀p,p<rows.length→jmp rows p=none→L p=p
 yes:∀p q,p<rows.length→jmp rows p=some q→L p=L q
 orb:∀p,p<rows.length→LN.Orb (jmp rows) p (L p)
noncomputable def Yr(rows:List Rw)(L:Nat→Nat):List Nd:=rows.mapIdx fun p r=>r.node rows L p
def Zo:DSp:=fun ds M Q _=>∃(a:Nat) (rows:List Rw),ds=[.ref a]∧Zg M a=some (rows.map Rw.d)∧RwOk rows∧
 ∀L M' r,Lands rows L→Kp M M'→Zi M' r=some ((Yr rows L).map Nd.d)→M.length≤r→Q (.tup [.ref r,.int (L 0:Nat)]) M'
theorem Pv{rows:List Rw}{g:Nat}(h:g∈rows.map Rw.num):Vp rows g<rows.length:=by
 have:=List.idxOf_lt_length_of_mem h
 rwa[List.length_map] at this
theorem Jx{rows:List Rw}(ok:RwOk rows){p q:Nat}(h:jmp rows p=some q):q<rows.length:=by
 unfold jmp at h
 split at h
 ·rename_i k g e
  cases h
  exact Pv (ok.goal _ (List.mem_of_getElem? e) g rfl)
 ·cases h
theorem Zy1{rows:List Rw}(ok:RwOk rows){p q:Nat}(h:LN.Orb (jmp rows) p q)(hp:p<rows.length):q<rows.length:=by
 induction h with
 | refl _=>exact hp
 | step e _ ih=>exact ih (Jx ok e)
theorem Ze4{rows:List Rw}(ok:RwOk rows){m:Nat→Option Nat}(h:LN.Ln (jmp rows) rows.length m)(all:∀p,p<rows.length→(m p).isSome=true):Lands rows (fun p=>(m p).getD 0):=by
 have get:∀p,p<rows.length→m p=some ((m p).getD 0):=fun p hp=>by
  obtain⟨g,e⟩:=Option.isSome_iff_exists.mp (all p hp)
  rw[e];rfl
 refine⟨fun p hp=>Zy1 ok (h p _ (get p hp)).2.2.2 hp,fun p hp e=>(h p _ (get p hp)).2.1 e,fun p q hp e=>?_,fun p hp=>(h p _ (get p hp)).2.2.2⟩
 try walk_at "ev"
 have:=(h p _ (get p hp)).2.2.1 q e
 show(m p).getD 0=(m q).getD 0
 rw[this];rfl
theorem Kp.D{M M':Z1}{a:Nat}{xs:List (Key×D)}(h:Kp M M')(e:Zd M a=some xs):Zd M' a=some xs:=by obtain⟨L,rfl⟩:=h;exact Y4 e
theorem X6(rows:List Rw)(L:Nat→Nat):(Yr rows L).length=rows.length:=by unfold Yr;simp
theorem Za{rows:List Rw}{L:Nat→Nat}{i:Nat}{r:Rw}(h:rows[i]?=some r):(Yr rows L)[i]?=some (r.node rows L i):=by unfold Yr;rw[List.getElem?_mapIdx,h];rfl
section
variable{K:PySem.W.Frag}
theorem Zj5{Γ G}(g4:Γ[10]?=some Z7):∀ds M Q Z,Zo ds M Q Z→tss ⟨K,Γ,G⟩ noX b_linked {nx:=fun _ M=>Q .non M,rt:=Q} (start0 Rf ds) M:=by
 rintro ds M Q Z ⟨a,rows,rfl,ha,ok,q⟩
 have hn:=ok.small
 simp only[b_linked,Rf]
 walk_at "ev"
 refine⟨_,ha,?_⟩
 try walk_at "ev"
 simp only[capD,List.map_cons,List.map_nil,Option.bind_none,Option.bind_some,List.getElem?_cons_zero,List.getElem?_cons_succ,Option.join_some]
 refine Fk (fun i σ M'=>∃d1 d2,σ=[d1,d2]∧M'=M++[.lst (U.Vu (numP ((rows.map Rw.num).take i)))]) ⟨none,none,rfl,rfl⟩ ?_ ?_ ?_
 ·rintro i σ M' _ ⟨d1,d2,rfl,rfl⟩
  exact⟨_,Zn ha,rfl⟩
 ·rintro i dx σ M' C hx ⟨d1,d2,rfl,rfl⟩ hC
  obtain⟨y,hy,rfl⟩:=Fv hx
  have hi:i<rows.length:=by have:=(List.getElem?_eq_some_iff.mp hy).1;rwa[List.length_map] at this
  obtain⟨r,hr⟩:∃r,rows[i]?=some r:=⟨_,List.getElem?_eq_getElem hi⟩
  rw[List.getElem?_map,hr] at hy
  cases hy
  have hnum:(rows.map Rw.num)[i]?=some r.num:=by rw[List.getElem?_map,hr];rfl
  have e0:∀F:D→Prop,F (.int (r.num:Nat))→ixD (M++[.lst (U.Vu (numP ((rows.map Rw.num).take i)))]) r.d (.int 0) F:=fun F f=>by cases r<;>exact⟨_,rfl,f⟩
  walk_at "ev"
  refine e0 _ ⟨Z2 (by decide),_,Y1 _ _ [],by unfold U.Vu;rw[List.length_map,Ot,List.length_take,List.length_map];exact Zl (by omega),?_⟩
  try walk_at "ev"
  rw[W5]
  refine hC _ _ ⟨_,_,rfl,?_⟩
  try walk_at "ev"
  rw[V7 hnum,Qb,List.length_take,List.length_map,Nat.min_eq_left (by omega)]
  unfold U.Vu
  rw[List.map_append]
  rfl
 ·rintro σ M' ⟨d1,d2,rfl,rfl⟩
  rw[Fx,List.length_map,←List.length_map (f:=Rw.num) (as:=rows),List.take_length]
  try walk_at "ev"
  refine .inr ⟨numP (rows.map Rw.num),Yp _ _ [],by rw[Ot,List.length_map];exact Zl (by omega),?_⟩
  try walk_at "ev"
  have k1:Kp M (M++[.lst (U.Vu (numP (rows.map Rw.num)))]++[.dct (V6 (numP (rows.map Rw.num)))]):=(Kp.new _ _).app _
  have hd1:Zd (M++[.lst (U.Vu (numP (rows.map Rw.num)))]++[.dct (V6 (numP (rows.map Rw.num)))]) (M++[Cell.lst (U.Vu (numP (rows.map Rw.num)))]:Z1).length=some (V6 (numP (rows.map Rw.num))):=Yo _ _ []
  generalize M++[.lst (U.Vu (numP (rows.map Rw.num)))]++[.dct (V6 (numP (rows.map Rw.num)))]=M1 at k1 hd1
  generalize (M++[Cell.lst (U.Vu (numP (rows.map Rw.num)))]:Z1).length=nn at hd1
  have ha1:=k1.L ha
  try simp only[g4]
  have jof:JOf rows (V6 (numP (rows.map Rw.num))) (jmp rows):=by
   intro p r hr
   cases r with
   | jump k g=>
    have hg:=ok.goal _ (List.mem_of_getElem? hr) g rfl
    exact⟨Vp rows g,by unfold jmp;rw[hr],Pv hg,Om _ _ rfl ok.nd g hg⟩
   | _=>show jmp rows p=none;unfold jmp;rw[hr]
  refine⟨a,nn,rows,_,jmp rows,rfl,ha1,hd1,hn,jof,fun kvs m M2 lan ln tot k2 hk=>?_⟩
  try walk_at "ev"
  have lands:=Ze4 ok ln tot
  have hd2:=k2.D hd1
  have ha2:=k2.L ha1
  have val:∀p:Nat,p<rows.length→valD kvs (Sum.inl (p:Int))=some (.int ((m p).getD 0:Nat)):=fun p hp=>by
   rw[lan p]
   obtain⟨g,e⟩:=Option.isSome_iff_exists.mp (tot p hp)
   rw[e];rfl
  walk_at "ev"
  refine⟨Z2 (by decide),_,Zn ha2,?_⟩
  try walk_at "ev"
  have hk':∀N,Zd (M2++N) M1.length=some kvs:=fun N=>Y4 hk
  have hp':∀N,Zd (M2++N) nn=some (V6 (numP (rows.map Rw.num))):=fun N=>Y4 hd2
  generalize hL:(fun p=>(m p).getD 0)=L at lands
  have val':∀p:Nat,p<rows.length→valD kvs (Sum.inl (p:Int))=some (.int (L p:Nat)):=fun p hp=>by rw[val p hp,←hL]
  refine S3 (fun i σ M'=>∃d4 d5,σ=[some (.ref a),some (.ref nn),some (.ref M1.length),some (.ref M2.length),d4,d5]∧M'=M2++[.lst (((Yr rows L).take i).map Nd.d)]) ⟨none,none,rfl,rfl⟩ ?_ ?_ ?_
  ·rintro i σ M' _ ⟨d4,d5,rfl,rfl⟩
   exact⟨_,Zn ha2,rfl⟩
  ·rintro i dx σ M' C hx ⟨d4,d5,rfl,rfl⟩ hC
   obtain⟨y,hy,rfl⟩:=Fv hx
   have hi:i<rows.length:=by have:=(List.getElem?_eq_some_iff.mp hy).1;rwa[List.length_map] at this
   obtain⟨r,hr⟩:∃r,rows[i]?=some r:=⟨_,List.getElem?_eq_getElem hi⟩
   rw[List.getElem?_map,hr] at hy
   cases hy
   have len:(((Yr rows L).take i).map Nd.d).length<sizeLine:=by
    rw[List.length_map,List.length_take,X6]
    exact Zl (by omega)
   have fin:∀d4 d5,C [some (.ref a),some (.ref nn),some (.ref M1.length),some (.ref M2.length),d4,d5] (M2++[.lst (((Yr rows L).take i).map Nd.d++[(r.node rows L i).d])]):=by
    intro d4 d5
    refine hC _ _ ⟨d4,d5,rfl,?_⟩
    try walk_at "ev"
    rw[V7 (Za hr),List.map_append]
    rfl
   have put:∀d4 d5 v,v=(r.node rows L i).d→∃xs,Zi (M2++[.lst (((Yr rows L).take i).map Nd.d)]) M2.length=some xs∧xs.length<sizeLine∧C [some (.ref a),some (.ref nn),some (.ref M1.length),some (.ref M2.length),d4,d5] ((M2++[.lst (((Yr rows L).take i).map Nd.d)]:Z1).set M2.length (.lst (xs++[v]))):=by
    rintro d4 d5 v rfl
    refine⟨_,Y1 _ _ [],len,?_⟩
    try walk_at "ev"
    rw[W5]
    exact fin d4 d5
   have isS:(Zg (M2++[.lst (((Yr rows L).take i).map Nd.d)]) M2.length).isSome=true:=Xb (Yp _ _ [])
   have e1:((i:Int)+1)=((i+1:Nat):Int):=by omega
   simp only[Po]
   try walk_at "ev"
   cases r with
   | sum k x o1 sg o2=>
    have hl:=ok.last i _ hr rfl
    simp only[Rw.d]
    try walk_at "ev"
    refine⟨_,rfl,?_⟩
    try walk_at "ev"
    rw[show U.cutD [.int k,.str "sum",.str x,o1.d,.str sg,o2.d] (some 1) none=[.str "sum",.str x,o1.d,.str sg,o2.d] from rfl,e1]
    refine⟨isS,by decide,ix_d (hk' _) rfl (val' _ hl) ⟨Z2 (by decide),by simp,Z2 (by simp),put _ _ _ rfl⟩⟩
   | test k o1 sg o2 g=>
    have hl:=ok.last i _ hr rfl
    have hg:=ok.goal _ (List.mem_of_getElem? hr) g rfl
    simp only[Rw.d]
    try walk_at "ev"
    refine⟨_,rfl,?_⟩
    try walk_at "ev"
    rw[if_neg (by decide+kernel)]
    try walk_at "ev"
    refine⟨_,rfl,?_⟩
    try walk_at "ev"
    rw[show U.cutD [.int k,.str "test",o1.d,.str sg,o2.d,.int g] (some 1) (some 5)=[.str "test",o1.d,.str sg,o2.d] from rfl,e1]
    refine⟨isS,by decide,_,rfl,ix_d (hp' _) rfl (Om _ _ rfl ok.nd g hg) (ix_d (hk' _) rfl (val' _ (Pv hg)) (ix_d (hk' _) rfl (val' _ hl) ⟨Z2 (by decide),by simp,Z2 (by simp),put _ _ _ rfl⟩))⟩
   | fin k=>
    simp only[Rw.d]
    try walk_at "ev"
    refine⟨_,rfl,?_⟩
    try walk_at "ev"
    rw[if_neg (by decide+kernel)]
    try walk_at "ev"
    refine⟨_,rfl,?_⟩
    try walk_at "ev"
    rw[if_neg (by decide+kernel)]
    try walk_at "ev"
    refine⟨_,rfl,?_⟩
    try walk_at "ev"
    exact⟨isS,Z2 (by decide),put _ _ _ rfl⟩
   | jump k g=>
    simp only[Rw.d]
    try walk_at "ev"
    refine⟨_,rfl,?_⟩
    try walk_at "ev"
    rw[if_neg (by decide+kernel)]
    try walk_at "ev"
    refine⟨_,rfl,?_⟩
    try walk_at "ev"
    rw[if_neg (by decide+kernel)]
    try walk_at "ev"
    refine⟨_,rfl,?_⟩
    try walk_at "ev"
    rw[if_neg (by decide+kernel)]
    try walk_at "ev"
    exact⟨isS,Z2 (by decide),put _ _ _ rfl⟩
  ·rintro σ M' ⟨d4,d5,rfl,rfl⟩
   rw[Fx,List.length_map,←X6 rows L,List.take_length]
   simp only[Pq]
   walk_at "ev"
   refine ix_d (y:=Sum.inl ((0:Nat):Int)) (hk' _) rfl (val' 0 ok.pos) ⟨Z2 (by decide),?_⟩
   try walk_at "ev"
   refine q L _ _ lands ((k1.trans k2).app _) (Y1 _ _ []) ?_
   try walk_at "ev"
   obtain⟨X1,rfl⟩:=k1
   obtain⟨X2,rfl⟩:=k2
   simp only[List.length_append]
   omega
end
section
variable{K:PySem.W.Frag}
noncomputable def Z21:D→Bool
 | .bl _ | .int _ | .str _=>true
 | _=>false
def AL(M:Z1):Nat→D→D→Prop
 | 0,x,y=>x=y∧Z21 x=true
 | n+1,x,y=>(x=y∧Z21 x=true)∨(∃xs ys,x= .tup xs∧y= .tup ys∧xs.length=ys.length∧xs.length≤100000∧∀(i:Nat) a b,xs[i]?=some a→ys[i]?=some b→AL M n a b)∨
   ∃m k xs ys,x= .ref m∧y= .ref k∧Zi M m=some xs∧Zi M k=some ys∧xs.length=ys.length∧xs.length≤100000∧∀(i:Nat) a b,xs[i]?=some a→ys[i]?=some b→AL M n a b
def Y2(n:Nat):DSp:=fun ds M Q _=>∃x y,ds=[x,y]∧AL M n x y∧Q (.bl true) M
theorem AL.flat{M:Z1}{n:Nat}{x:D}(h:Z21 x=true):AL M n x x:=by
 cases n with
 | zero=>exact⟨rfl,h⟩
 | succ n=>exact .inl ⟨rfl,h⟩
theorem Pk{Γ G}{M:Z1}{Q:DK}{x:D}(h:Z21 x=true)(q:Q (.bl true) M):tss ⟨K,Γ,G⟩ noX b_Lalike {nx:=fun _ M=>Q .non M,rt:=Q} (start0 Xr [x,x]) M:=by
 simp only[b_Lalike,Xr]
 try walk_at "ev"
 cases x with
 | bl b=>
  walk_at "ev"
  simpa using q
 | int i=>
  walk_at "ev"
  simp only[Wb]
  walk_at "ev"
  simpa using q
 | str z=>
  walk_at "ev"
  simp only[Wb]
  walk_at "ev"
  simp only[Vd]
  walk_at "ev"
  simpa using q
 | _=>exact absurd h Bool.false_ne_true
theorem Z55{Γ G}:∀ds M Q Z,Y2 0 ds M Q Z→tss ⟨K,Γ,G⟩ noX b_Lalike {nx:=fun _ M=>Q .non M,rt:=Q} (start0 Xr ds) M:=by
 rintro ds M Q Z ⟨x,y,rfl,⟨rfl,h⟩,q⟩
 exact Pk h q
theorem Oz{Γ G}{n:Nat}(g:Γ[21]?=some (Y2 n)){M:Z1}{Q:DK}{x y:D}{xs ys:List D}{d:Option D}(hl:xs.length=ys.length)(hs:xs.length≤100000)(h:∀(i:Nat) a b,xs[i]?=some a→ys[i]?=some b→AL M n a b)
  (lx:∀F:DK,F (.int xs.length) M→bfD K .len [x] M F) (ly:∀F:DK,F (.int ys.length) M→bfD K .len [y] M F) (ix:∀(i:Nat) a (F:D→Prop),xs[i]?=some a→F a→ixD M x (.int i) F) (iy:∀(i:Nat) a (F:D→Prop),ys[i]?=some a→F a→ixD M y (.int i) F) (q:Q (.bl true) M):
  tss ⟨K,Γ,G⟩ noX Tp {nx:=fun _ M=>Q .non M,rt:=Q} [some x,some y,d] M:=by
 simp only[Tp]
 walk_at "ev"
 refine lx _ (ly _ ?_)
 walk_at "ev"
 rw[if_neg (by rw[hl];simp)]
 try walk_at "ev"
 simp only[Ps]
 walk_at "ev"
 refine ly _ ⟨by omega,by omega,?_⟩
 try walk_at "ev"
 rw[Int.toNat_natCast]
 refine Wd (fun i σ M'=>∃d,σ=[some x,some y,d]∧M'=M) ⟨d,rfl,rfl⟩ ?_ ?_
 ·rintro i σ M' C hi ⟨d,rfl,rfl⟩ hC
  simp only[Pf,Int.zero_add]
  walk_at "ev"
  refine ix i _ _ (List.getElem?_eq_getElem (by omega)) (iy i _ _ (List.getElem?_eq_getElem hi) ?_)
  simp only[g]
  refine⟨_,_,rfl,h i _ _ (List.getElem?_eq_getElem (by omega)) (List.getElem?_eq_getElem hi),?_⟩
  walk_at "ev"
  exact hC _ _ ⟨_,rfl,rfl⟩
 ·rintro σ M' ⟨d,rfl,rfl⟩
  simp only[O1]
  walk_at "ev"
  exact q
theorem Nw{Γ G}{n:Nat}(g:Γ[21]?=some (Y2 n)):∀ds M Q Z,Y2 (n+1) ds M Q Z→tss ⟨K,Γ,G⟩ noX b_Lalike {nx:=fun _ M=>Q .non M,rt:=Q} (start0 Xr ds) M:=by
 rintro ds M Q Z ⟨x,y,rfl,h | ⟨xs,ys,rfl,rfl,hl,hs,h⟩ | ⟨m,k,xs,ys,rfl,rfl,h1,h2,hl,hs,h⟩,q⟩
 ·obtain⟨rfl,h⟩:=h
  exact Pk h q
 ·simp only[b_Lalike,Xr]
  walk_at "ev"
  simp only[Wb]
  walk_at "ev"
  simp only[Vd]
  walk_at "ev"
  simp only[To]
  walk_at "ev"
  exact Oz g hl hs h (fun F f=>f) (fun F f=>f) (fun i a F e f=>⟨a,Rk e,f⟩) (fun i a F e f=>⟨a,Rk e,f⟩) q
 ·have i1:∀{t:Ty} {B:Bool→Prop},isD K M (.ref m) (.ty (Yt t)) B=B (tyLst t):=fun{t B}=>Z61 h1
  have i2:∀{t:Ty} {B:Bool→Prop},isD K M (.ref k) (.ty (Yt t)) B=B (tyLst t):=fun{t B}=>Z61 h2
  simp only[b_Lalike,Xr]
  walk_at "ev"
  simp only[i2]
  walk_at "ev"
  simp only[Wb]
  walk_at "ev"
  simp only[i2]
  walk_at "ev"
  simp only[Vd]
  walk_at "ev"
  simp only[i2]
  walk_at "ev"
  simp only[To]
  walk_at "ev"
  simp only[i1,i2]
  walk_at "ev"
  exact Oz g hl hs h (fun F f=>Yq (Z3 h1) f) (fun F f=>Yq (Z3 h2) f) (fun i a F e f=>ix_l (Z3 h1) e f) (fun i a F e f=>ix_l (Z3 h2) e f) q
end
noncomputable def dI:D→Int
 | .int i=>i
 | _=>0
noncomputable def wI(kvs:List (Key×D)):Opd→Int
 | .no i=>i
 | .nm x=>dI ((valD kvs (Sum.inr x)).getD (.int 0))
def MI(n:Nat)(kvs:List (Key×D)):Prop:=∀k v,valD kvs k=some v→∃i,v= .int i∧Bits n i
def OB:Opd→Prop
 | .no i=>Bits 64 i
 | .nm _=>True
theorem MI.wth{n:Nat}{kvs:List (Key×D)}(h:MI n kvs)(hn:64≤n){o:Opd}(ho:OB o):Bits n (wI kvs o):=by
 cases o with
 | no i=>exact(show Bits 64 i from ho).mono hn
 | nm x=>
  show Bits n (dI ((valD kvs (Sum.inr x)).getD (.int 0)))
  cases e:valD kvs (Sum.inr x) with
  | none=>exact(show Bits 1 0 by unfold Bits;decide).mono (by omega)
  | some v=>obtain⟨i,rfl,hb⟩:=h _ _ e;exact hb
theorem MI.get{n:Nat}{kvs:List (Key×D)}(h:MI n kvs)(x:Str):(valD kvs (Sum.inr x)).getD (.int 0)= .int (wI kvs (.nm x)):=by
 show _=D.int (dI ((valD kvs (Sum.inr x)).getD (.int 0)))
 cases e:valD kvs (Sum.inr x) with
 | none=>rfl
 | some v=>obtain⟨i,rfl,hb⟩:=h _ _ e;rfl
theorem MI.put{n:Nat}{kvs:List (Key×D)}(h:MI n kvs)(k:Key){i:Int}(hi:Bits (n+1) i):MI (n+1) (putD kvs k (.int i)):=by
 intro j v e
 rw[Tc] at e
 split at e
 ·cases e;exact⟨i,rfl,hi⟩
 ·obtain⟨w,rfl,hw⟩:=h j v e;exact⟨w,rfl,hw.mono (by omega)⟩
theorem MI.mono{n m:Nat}{kvs:List (Key×D)}(h:MI n kvs)(k:n≤m):MI m kvs:=fun j v e=>by obtain⟨i,a,b⟩:=h j v e;exact⟨i,a,b.mono k⟩
noncomputable def mkS(sg:Str)(a b:Int):Option Int:=
 if sg="+" then some (a+b) else if sg="-" then some (a - b) else if sg="/" then(if b=0 then none else some (qdiv a b)) else if sg="rest" then(if b=0 then none else some (qmod a b)) else if sg="&" then some (Builtin.bitAnd a b) else some (Builtin.bitXor a b)
noncomputable def hld(sg:Str)(a b:Int):Bool:=if sg="<" then decide (a<b) else decide (a=b)
theorem Sz{n:Nat}{x:Int}(h:Bits n x):-(2 ^ n:Nat)≤x∧x< (2 ^ n:Nat):=by unfold Bits at h;omega
theorem Fi{n:Nat}{x:Int}(h:-(2 ^ n:Nat)≤x∧x< (2 ^ n:Nat)):Bits (n+1) x:=by
 unfold Bits
 rw[Nat.pow_succ]
 omega
theorem Z72{n:Nat}{sg:Str}{a b v:Int}(ha:Bits n a)(hb:Bits n b)(h:mkS sg a b=some v):Bits (n+1) v:=by
 unfold mkS at h
 split at h
 ·cases h;exact ha.add hb
 split at h
 ·cases h
  have:Bits n (-b):=by unfold Bits at hb ⊢;rw[Int.natAbs_neg];exact hb
  have:=ha.add this
  rwa[←Int.sub_eq_add_neg] at this
 split at h
 ·split at h
  ·cases h
  ·cases h
   rename_i hb0
   refine Bits.mono (n:=n) ?_ (by omega)
   unfold Bits at ha ⊢
   rw[←G9]
   exact Nat.lt_of_le_of_lt (Int.natAbs_fdiv_le_natAbs a b) ha
 split at h
 ·split at h
  ·cases h
  ·cases h
   rename_i hb0
   refine Bits.mono (n:=n) ?_ (by omega)
   unfold Bits at hb ⊢
   rw[←Qd]
   rcases Int.lt_or_le 0 b with h0 | h0
   ·rw[Int.fmod_eq_emod_of_nonneg _ (by omega)]
    have:=Int.emod_nonneg a hb0
    have:=Int.emod_lt_of_pos a h0
    omega
   ·have e:=Int.neg_fmod_neg a b
    rw[Int.fmod_eq_emod_of_nonneg _ (by omega)] at e
    have:=Int.emod_nonneg (-a) (show -b≠0 by omega)
    have:=Int.emod_lt_of_pos (-a) (show 0< -b by omega)
    omega
 split at h
 ·cases h
  obtain⟨a1,a2⟩:=Sz ha
  obtain⟨b1,b2⟩:=Sz hb
  exact Fi (UB.range_and a1 a2 b1 b2)
 ·cases h
  obtain⟨a1,a2⟩:=Sz ha
  obtain⟨b1,b2⟩:=Sz hb
  exact Fi (UB.range_xor a1 a2 b1 b2)
noncomputable def sumT(x:Str)(u:Int)(sg:Str)(v w:Int):D:= .tup [.str "sum",.str x,.int u,.str sg,.int v,.int w]
noncomputable def testT(u:Int)(sg:Str)(v:Int)(b:Bool):D:= .tup [.str "test",.int u,.str sg,.int v,.bl b]
noncomputable def stp(kvs:List (Key×D)):Nd→Option (D×List (Key×D)×Nat)
 | .sum x a sg b t=>(mkS sg (wI kvs a) (wI kvs b)).map fun w=>(sumT x (wI kvs a) sg (wI kvs b) w,putD kvs (Sum.inr x) (.int w),t)
 | .test a sg b y n=>some (testT (wI kvs a) sg (wI kvs b) (hld sg (wI kvs a) (wI kvs b)),kvs,if hld sg (wI kvs a) (wI kvs b)=true then y else n)
 | .fin=>none
 | .spin=>none
theorem X5(kvs:List (Key×D))(x:Str)(a:Opd)(sg:Str)(b:Opd)(t:Nat):stp kvs (.sum x a sg b t)=(mkS sg (wI kvs a) (wI kvs b)).map fun w=>(sumT x (wI kvs a) sg (wI kvs b) w,putD kvs (Sum.inr x) (.int w),t):=rfl
noncomputable def Nd.goes:Nd→Bool
 | .sum _ _ _ _ _=>true
 | .test _ _ _ _ _=>true
 | _=>false
def NB:Nd→Prop
 | .sum _ a _ b _=>OB a∧OB b
 | .test a sg b _ _=>OB a∧OB b∧(sg="<"∨sg="=")
 | _=>True
def onS{α:Type}(o:Option α)(F:α→Prop)(E:Prop):Prop:=match o with
 | some x=>F x
 | none=>E
structure Fine(n:Nat)(kvs:List (Key×D)):Prop where
 mi:MI n kvs
 lo:64≤n
 hi:n≤8000
theorem Fine.log{n:Nat}{kvs:List (Key×D)}(h:Fine n kvs){o:Opd}(ho:OB o):(wI kvs o).natAbs.log2<9000:=Nat.lt_of_lt_of_le (Ph (h.mi.wth h.lo ho) (by have:=h.lo;omega)) (by have:=h.hi;omega)
def Zk(B:Addr)(f:Int→Int→Int):DSp:=fun ds M Q Z=>∃a b:Int,ds=[.int a,.int b]∧b.natAbs.log2<9000∧(if b=0 then Z B .non M else Q (.int (f a b)) M)
def Zt(B:Addr):DSp:=fun ds M Q Z=>∃(sg:Str) (a b:Int),ds=[.str sg,.int a,.int b]∧b.natAbs.log2<9000∧onS (mkS sg a b) (fun v=>Q (.int v) M) (Z B .non M)
def Zm:DSp:=fun ds M Q _=>∃(sg:Str) (a b:Int),ds=[.str sg,.int a,.int b]∧Q (.bl (hld sg a b)) M
def Z8:DSp:=fun ds M Q _=>∃(o:Opd) (h n:Nat) (kvs:List (Key×D)),ds=[o.d,.ref h]∧Zd M h=some kvs∧MI n kvs∧Q (.int (wI kvs o)) M
def Z6(B:Addr):DSp:=fun ds M Q Z=>∃(x:Str) (a:Opd) (sg:Str) (b:Opd) (t h n:Nat) (kvs:List (Key×D)),ds=[.str x,a.d,.str sg,b.d,.ref h]∧Zd M h=some kvs∧Fine n kvs∧OB b∧onS (stp kvs (.sum x a sg b t)) (fun s=>Q s.1 M) (Z B .non M)
def Z5:DSp:=fun ds M Q _=>∃(a:Opd) (sg:Str) (b:Opd) (h n:Nat) (kvs:List (Key×D)),ds=[a.d,.str sg,b.d,.ref h]∧Zd M h=some kvs∧Fine n kvs∧Q (testT (wI kvs a) sg (wI kvs b) (hld sg (wI kvs a) (wI kvs b))) M
def Zj(B:Addr):DSp:=fun ds M Q Z=>∃(d:Nd) (h n:Nat) (kvs:List (Key×D)),ds=[d.d,.ref h]∧Zd M h=some kvs∧Fine n kvs∧NB d∧d.goes=true∧onS (stp kvs d) (fun s=>Q s.1 M) (Z B .non M)
def Bh(h:Nat)(dd:D)(M:Z1)(Q:DK):Nd→Prop
 | .sum x _ _ _ t=>∃s0 s1 s2 s3 s4 v kvs,dd= .tup [s0,s1,s2,s3,s4,v]∧Zd M h=some kvs∧kvs.length<sizeLine∧Q (.int (t:Nat)) (M.set h (.dct (putD kvs (Sum.inr x) v)))
 | .test _ _ _ y n=>∃s0 s1 s2 s3 b,dd= .tup [s0,s1,s2,s3,.bl b]∧Q (.int ((if b=true then y else n:Nat):Int)) M
 | .fin=>False
 | .spin=>False
def Zh:DSp:=fun ds M Q _=>∃(n:Nd) (dd:D) (h:Nat),ds=[n.d,dd,.ref h]∧Bh h dd M Q n
section
variable{K:PySem.W.Frag}{J B:Addr}
theorem Cw{Γ}:∀ds M Q Z,Zk B qdiv ds M Q Z→tss ⟨K,Γ,[.cls J,.cls B]⟩ Z b_quotient {nx:=fun _ M=>Q .non M,rt:=Q} (start0 Vf ds) M:=by
 rintro ds M Q Z ⟨a,b,rfl,hb,q⟩
 simp only[b_quotient,Vf]
 walk_at "ev"
 by_cases h:b=0
 ·rw[if_pos h] at q ⊢
  walk_at "ev"
  exact q
 ·rw[if_neg h] at q ⊢
  simp only[S8]
  walk_at "ev"
  exact⟨⟨h,hb⟩,q⟩
theorem Y38{Γ}:∀ds M Q Z,Zk B qmod ds M Q Z→tss ⟨K,Γ,[.cls J,.cls B]⟩ Z b_rest {nx:=fun _ M=>Q .non M,rt:=Q} (start0 Fe ds) M:=by
 rintro ds M Q Z ⟨a,b,rfl,hb,q⟩
 simp only[b_rest,Fe]
 walk_at "ev"
 by_cases h:b=0
 ·rw[if_pos h] at q ⊢
  walk_at "ev"
  exact q
 ·rw[if_neg h] at q ⊢
  simp only[Fw]
  walk_at "ev"
  exact⟨h,q⟩
theorem Y29{Γ G}(g0:Γ[0]?=some (Zk B qdiv))(g1:Γ[1]?=some (Zk B qmod)):∀ds M Q Z,Zt B ds M Q Z→tss ⟨K,Γ,G⟩ Z b_made {nx:=fun _ M=>Q .non M,rt:=Q} (start0 Ew ds) M:=by
 rintro ds M Q Z ⟨sg,a,b,rfl,hb,q⟩
 unfold mkS at q
 simp only[b_made,Ew]
 walk_at "ev"
 by_cases h:sg="+"
 ·rw[if_pos h] at q ⊢
  try walk_at "ev"
  exact q
 rw[if_neg h] at q ⊢
 simp only[Er]
 walk_at "ev"
 by_cases h:sg="-"
 ·rw[if_pos h] at q ⊢
  try walk_at "ev"
  exact q
 rw[if_neg h] at q ⊢
 simp only[Fg]
 walk_at "ev"
 by_cases h:sg="/"
 ·rw[if_pos h] at q ⊢
  try walk_at "ev"
  refine⟨a,b,rfl,hb,?_⟩
  split
  ·rename_i e;rw[if_pos e] at q;exact q
  ·rename_i e;rw[if_neg e] at q;exact q
 rw[if_neg h] at q ⊢
 simp only[Fj]
 walk_at "ev"
 by_cases h:sg="rest"
 ·rw[if_pos h] at q ⊢
  try walk_at "ev"
  refine⟨a,b,rfl,hb,?_⟩
  split
  ·rename_i e;rw[if_pos e] at q;exact q
  ·rename_i e;rw[if_neg e] at q;exact q
 rw[if_neg h] at q ⊢
 simp only[Ea]
 walk_at "ev"
 by_cases h:sg="&"
 ·rw[if_pos h] at q ⊢
  try walk_at "ev"
  exact q
 rw[if_neg h] at q ⊢
 simp only[Ee]
 walk_at "ev"
 exact q
theorem Zn7{Γ G}:∀ds M Q Z,Zm ds M Q Z→tss ⟨K,Γ,G⟩ noX b_holds {nx:=fun _ M=>Q .non M,rt:=Q} (start0 Od ds) M:=by
 rintro ds M Q Z ⟨sg,a,b,rfl,q⟩
 unfold hld at q
 simp only[b_holds,Od]
 walk_at "ev"
 by_cases h:sg="<"
 ·rw[if_pos h] at q ⊢
  try walk_at "ev"
  exact q
 rw[if_neg h] at q ⊢
 simp only[Nu]
 walk_at "ev"
 exact q
theorem Zp2{Γ G}:∀ds M Q Z,Z8 ds M Q Z→tss ⟨K,Γ,G⟩ noX b_worth {nx:=fun _ M=>Q .non M,rt:=Q} (start0 Os ds) M:=by
 rintro ds M Q Z ⟨o,h,n,kvs,rfl,hd,hm,q⟩
 simp only[b_worth,Os]
 cases o with
 | no i=>
  simp only[Opd.d]
  walk_at "ev"
  simp only[Jk]
  walk_at "ev"
  exact q
 | nm x=>
  simp only[Opd.d]
  walk_at "ev"
  refine⟨by rw[hd];rfl,kvs,_,hd,rfl,?_⟩
  rw[hm.get]
  exact q
theorem Oo{Γ G}(g2:Γ[2]?=some (Zt B))(g4:Γ[4]?=some Z8):∀ds M Q Z,Z6 B ds M Q Z→tss ⟨K,Γ,G⟩ Z b_deed_of_sum {nx:=fun _ M=>Q .non M,rt:=Q} (start0 Xg ds) M:=by
 rintro ds M Q Z ⟨x,a,sg,b,t,h,n,kvs,rfl,hd,fi,hb,q⟩
 simp only[b_deed_of_sum,Xg]
 walk_at "ev"
 refine⟨a,h,n,kvs,rfl,hd,fi.mi,?_⟩
 walk_at "ev"
 refine⟨b,h,n,kvs,rfl,hd,fi.mi,?_⟩
 walk_at "ev"
 refine⟨sg,_,_,rfl,fi.log hb,?_⟩
 rw[X5] at q
 cases e:mkS sg (wI kvs a) (wI kvs b) with
 | none=>rw[e] at q;exact q
 | some w=>rw[e] at q;exact⟨Z2 (by decide),q⟩
theorem Qr{Γ G}(g3:Γ[3]?=some Zm)(g4:Γ[4]?=some Z8):∀ds M Q Z,Z5 ds M Q Z→tss ⟨K,Γ,G⟩ noX b_deed_of_test {nx:=fun _ M=>Q .non M,rt:=Q} (start0 X8 ds) M:=by
 rintro ds M Q Z ⟨a,sg,b,h,n,kvs,rfl,hd,fi,q⟩
 simp only[b_deed_of_test,X8]
 walk_at "ev"
 refine⟨a,h,n,kvs,rfl,hd,fi.mi,?_⟩
 walk_at "ev"
 refine⟨b,h,n,kvs,rfl,hd,fi.mi,?_⟩
 walk_at "ev"
 exact⟨sg,_,_,rfl,Z2 (by decide),q⟩
theorem Z58{Γ G}(g5:Γ[5]?=some (Z6 B))(g6:Γ[6]?=some Z5):∀ds M Q Z,Zj B ds M Q Z→tss ⟨K,Γ,G⟩ Z b_deed_of {nx:=fun _ M=>Q .non M,rt:=Q} (start0 T4 ds) M:=by
 rintro ds M Q Z ⟨d,h,n,kvs,rfl,hd,fi,nb,go,q⟩
 simp only[b_deed_of,T4]
 cases d with
 | sum x a sg b t=>
  simp only[Nd.d]
  walk_at "ev"
  refine⟨_,rfl,?_⟩
  walk_at "ev"
  refine⟨_,rfl,_,rfl,_,rfl,_,rfl,?_⟩
  try walk_at "ev"
  exact⟨x,a,sg,b,t,h,n,kvs,rfl,hd,fi,nb.2,q⟩
 | test a sg b y z=>
  simp only[Nd.d]
  walk_at "ev"
  refine⟨_,rfl,?_⟩
  walk_at "ev"
  rw[if_neg (by decide+kernel)]
  try walk_at "ev"
  simp only[Qi]
  walk_at "ev"
  refine⟨_,rfl,_,rfl,_,rfl,?_⟩
  try walk_at "ev"
  exact⟨a,sg,b,h,n,kvs,rfl,hd,fi,q⟩
 | fin=>cases go
 | spin=>cases go
theorem Ze9{Γ G}:∀ds M Q Z,Zh ds M Q Z→tss ⟨K,Γ,G⟩ noX b_behind {nx:=fun _ M=>Q .non M,rt:=Q} (start0 Sr ds) M:=by
 rintro ds M Q Z ⟨n,dd,h,rfl,q⟩
 simp only[b_behind,Sr]
 cases n with
 | sum x a sg b t=>
  obtain⟨s0,s1,s2,s3,s4,v,kvs,rfl,hd,hl,q⟩:=q
  simp only[Nd.d]
  walk_at "ev"
  refine⟨_,rfl,?_⟩
  walk_at "ev"
  refine⟨_,rfl,_,rfl,.inr ⟨kvs,_,hd,rfl,hl,?_⟩⟩
  try walk_at "ev"
  exact⟨_,rfl,q⟩
 | test a sg b y n=>
  obtain⟨s0,s1,s2,s3,bb,rfl,q⟩:=q
  simp only[Nd.d]
  walk_at "ev"
  refine⟨_,rfl,?_⟩
  walk_at "ev"
  rw[if_neg (by decide+kernel)]
  try walk_at "ev"
  simp only[O0]
  walk_at "ev"
  refine⟨_,rfl,?_⟩
  try walk_at "ev"
  cases bb with
  | true=>exact⟨_,rfl,q⟩
  | false=>exact⟨_,rfl,q⟩
 | fin=>exact q.elim
 | spin=>exact q.elim
end
noncomputable def wrd:Option Nd→Str
 | some .fin=>"end"
 | _=>"on"
noncomputable def runN(nds:List Nd):Nat→Nat→List (Key×D)→List D×Str×List (Key×D)
 | 0,pl,kv=>([],wrd nds[pl]?,kv)
 | k+1,pl,kv=>match nds[pl]? with
  | some n=>match stp kv n with
   | some s=>(s.1::(runN nds k s.2.2 s.2.1).1,(runN nds k s.2.2 s.2.1).2)
   | none=>([],if n.goes=true then "fault" else wrd (some n),kv)
  | none=>([],"on",kv)
theorem Ev{nds:List Nd}{k pl:Nat}{kv:List (Key×D)}{n:Nd}{s:D×List (Key×D)×Nat}(h:nds[pl]?=some n)(e:stp kv n=some s):runN nds (k+1) pl kv=(s.1::(runN nds k s.2.2 s.2.1).1,(runN nds k s.2.2 s.2.1).2):=by
 show(match nds[pl]? with | some n=>(match stp kv n with | some s=>(s.1::(runN nds k s.2.2 s.2.1).1,(runN nds k s.2.2 s.2.1).2) | none=>([],if n.goes=true then "fault" else wrd (some n),kv)) | none=>([],"on",kv))=_
 rw[h];dsimp only;rw[e]
theorem Eb{nds:List Nd}{k pl:Nat}{kv:List (Key×D)}{n:Nd}(h:nds[pl]?=some n)(g:n.goes=true)(e:stp kv n=none):runN nds (k+1) pl kv=([],("fault":Str),kv):=by
 show(match nds[pl]? with | some n=>(match stp kv n with | some s=>(s.1::(runN nds k s.2.2 s.2.1).1,(runN nds k s.2.2 s.2.1).2) | none=>([],if n.goes=true then "fault" else wrd (some n),kv)) | none=>([],"on",kv))=_
 rw[h];dsimp only;rw[e,g];rfl
theorem Su{nds:List Nd}{k pl:Nat}{kv:List (Key×D)}{n:Nd}(h:nds[pl]?=some n)(g:n.goes=false∨k=0):runN nds k pl kv=([],wrd (some n),kv):=by
 cases k with
 | zero=>show([],wrd nds[pl]?,kv)=_;rw[h]
 | succ k=>
  have g:=g.resolve_right (Nat.succ_ne_zero k)
  have e:stp kv n=none:=by cases n<;>first | rfl | cases g
  show(match nds[pl]? with | some n=>(match stp kv n with | some s=>(s.1::(runN nds k s.2.2 s.2.1).1,(runN nds k s.2.2 s.2.1).2) | none=>([],if n.goes=true then "fault" else wrd (some n),kv)) | none=>([],"on",kv))=_
  rw[h];dsimp only;rw[e,g];rfl
def Zw9(nds:List Nd):Prop:=∀n∈nds,NB n∧∀t∈n.gs,t<nds.length
theorem Wz(m:List (Key×D))(k:Key)(v:D):(putD m k v).length≤m.length+1:=by
 unfold putD
 split
 ·rw[List.length_map];omega
 ·rw[List.length_append,List.length_singleton];exact Nat.le_refl _
theorem Qe{n:Nat}{kv:List (Key×D)}{d:Nd}{s:D×List (Key×D)×Nat}(h:MI n kv)(hn:64≤n)(nb:NB d)(e:stp kv d=some s):MI (n+1) s.2.1∧s.2.1.length≤kv.length+1∧s.2.2∈d.gs:=by
 cases d with
 | sum x a sg b t=>
  rw[X5,Option.map_eq_some_iff] at e
  obtain⟨w,e,rfl⟩:=e
  exact⟨h.put _ (Z72 (h.wth hn nb.1) (h.wth hn nb.2) e),Wz _ _ _,by simp[Nd.gs]⟩
 | test a sg b y z=>
  cases e
  refine⟨h.mono (by omega),by dsimp only;omega,?_⟩
  dsimp only
  split<;>simp[Nd.gs]
 | fin=>cases e
 | spin=>cases e
def Zb:DSp:=fun ds M Q _=>∃(a pl mm most:Nat) (nds:List Nd) (kvs:List (Key×D)),ds=[.ref a,.int (pl:Nat),.ref mm,.int (most:Nat)]∧Zg M a=some (nds.map Nd.d)∧Zd M mm=some kvs∧Zw9 nds∧pl<nds.length∧MI 1064 kvs∧kvs.length≤500∧most≤1000∧
 Q (.tup [.ref (M.length+1),.str (runN nds most pl kvs).2.1,.ref M.length]) (M++[.dct (runN nds most pl kvs).2.2,.lst (runN nds most pl kvs).1])
section
variable{K:PySem.W.Frag}{J B:Addr}
theorem Bt{Γ}(hc:Catch K B B true)(g7:Γ[7]?=some Zh)(g8:Γ[8]?=some (Zj B)):∀ds M Q Z,Zb ds M Q Z→tss ⟨K,Γ,[.cls J,.cls B]⟩ noX b_run_from {nx:=fun _ M=>Q .non M,rt:=Q} (start0 Ve ds) M:=by
 rintro ds M Q Z ⟨a,p0,mm,most,nds,kvs,rfl,ha,hd,ok,hp0,mi0,kl0,hmost,q⟩
 simp only[b_run_from,Ve]
 walk_at "ev"
 refine .inl ⟨kvs,hd,?_⟩
 walk_at "ev"
 refine⟨Z2 (by decide),?_⟩
 walk_at "ev"
 rw[show(M++[Cell.dct kvs]:Z1).length=M.length+1 by simp,List.append_assoc,List.cons_append,List.nil_append]
 have rN:∀c d,Zg (M++[c,d]) a=some (nds.map Nd.d):=fun c d=>Zn ha
 have rH:∀kv d,Zd (M++[.dct kv,d]) M.length=some kv:=fun kv d=>Yo _ _ _
 have rDs:∀c xs,Zi (M++[c,.lst xs]) (M.length+1)=some xs:=fun c xs=>by rw[Tz];rfl
 have sDs:∀c e xs,(M++[c,e]:Z1).set (M.length+1) (.lst xs)=M++[c,.lst xs]:=fun c e xs=>by rw[Sx];rfl
 have sH:∀c e d,(M++[c,e]:Z1).set M.length d=M++[d,e]:=fun c e d=>W5 _ _ _ _
 have get:∀{i:Nat} {n:Nd},nds[i]?=some n→(nds.map Nd.d)[i]?=some n.d:=fun h=>by rw[List.getElem?_map,h];rfl
 refine⟨fun k σ M'=>∃(pl:Nat) (kv:List (Key×D)) (dsd:List D) (d7:Option D),σ=[some (.ref a),some (.int (p0:Nat)),some (.ref mm),some (.int (most:Nat)),some (.ref M.length),some (.ref (M.length+1)),some (.int (pl:Nat)),d7,none]∧M'=M++[.dct kv,.lst dsd]∧dsd.length+k=most∧pl<nds.length∧MI (1064+dsd.length) kv∧kv.length≤500+dsd.length∧(dsd++(runN nds k pl kv).1,(runN nds k pl kv).2)=runN nds most p0 kvs,
  ⟨most,p0,kvs,[],none,rfl,rfl,Nat.zero_add _,hp0,mi0,kl0,rfl⟩,?_⟩
 rintro k σ M' ⟨pl,kv,dsd,d7,rfl,rfl,hk,hpl,mi,kl,inv⟩
 obtain⟨n,hn⟩:∃n,nds[pl]?=some n:=⟨_,List.getElem?_eq_getElem hpl⟩
 obtain⟨nb,ngs⟩:=ok n (List.mem_of_getElem? hn)
 have out:n.goes=false∨k=0→tss ⟨K,Γ,[.cls J,.cls B]⟩ noX V0 {nx:=fun _ M=>Q .non M,rt:=Q} [some (.ref a),some (.int (p0:Nat)),some (.ref mm),some (.int (most:Nat)),some (.ref M.length),some (.ref (M.length+1)),some (.int (pl:Nat)),d7,none] (M++[.dct kv,.lst dsd]):=by
  intro hg
  have q':=q
  rw[←inv,Su hn hg,List.append_nil] at q'
  simp only[V0]
  walk_at "ev"
  refine ix_l (rN _ _) (get hn) ?_
  cases n with
  | fin=>
   simp only[Nd.d]
   walk_at "ev"
   refine⟨_,rfl,?_⟩
   walk_at "ev"
   exact⟨Z2 (by decide),q'⟩
  | _=>
   simp only[Nd.d]
   walk_at "ev"
   refine⟨_,rfl,?_⟩
   walk_at "ev"
   rw[if_neg (by decide+kernel)]
   try walk_at "ev"
   exact⟨Z2 (by decide),q'⟩
 have tests:∀(T E0:Z1→Prop),(n.goes=true→0<k→T (M++[.dct kv,.lst dsd]))→(n.goes=false∨k=0→E0 (M++[.dct kv,.lst dsd]))→
   ixD (M++[.dct kv,.lst dsd]) (.ref a) (.int (pl:Nat)) fun d=>ixD (M++[.dct kv,.lst dsd]) d (.int 0) fun d=>2≤sizeLine∧inQ (M++[.dct kv,.lst dsd]) d (.tup [.str "sum",.str "test"]) fun r=>
    if r=true then bfD K .len [.ref (M.length+1)] (M++[.dct kv,.lst dsd]) fun z M1=>cmD M1 .lt z (.int (most:Nat)) fun r=>if r=true then T M1 else E0 M1
    else if r=true then T (M++[.dct kv,.lst dsd]) else E0 (M++[.dct kv,.lst dsd]):=by
  intro T E0 hT hE
  have yes:∀(r:Bool),r=true→n.goes=true→(if r=true then bfD K .len [.ref (M.length+1)] (M++[.dct kv,.lst dsd]) fun z M1=>cmD M1 .lt z (.int (most:Nat)) fun r=>if r=true then T M1 else E0 M1
    else if r=true then T (M++[.dct kv,.lst dsd]) else E0 (M++[.dct kv,.lst dsd])):=by
   rintro r rfl hg
   rw[if_pos rfl]
   refine Yq (Z3 (rDs _ _)) ?_
   show if decide ((dsd.length:Int)< (most:Int))=true then _ else _
   by_cases hl:dsd.length<most
   ·rw[if_pos (by simpa using hl)]
    exact hT hg (by omega)
   ·rw[if_neg (by simpa using hl)]
    exact hE (.inr (by omega))
  refine ix_l (rN _ _) (get hn) ?_
  cases n with
  | fin=>exact⟨_,rfl,Z2 (by decide),rfl,rfl,hE (.inl rfl)⟩
  | spin=>exact⟨_,rfl,Z2 (by decide),rfl,rfl,hE (.inl rfl)⟩
  | sum y o1 sg o2 t=>exact⟨_,rfl,Z2 (by decide),rfl,rfl,yes _ rfl rfl⟩
  | test o1 sg o2 t1 t2=>exact⟨_,rfl,Z2 (by decide),rfl,rfl,yes _ rfl rfl⟩
 walk_at "ev"
 refine tests _ _ (fun hg hk0=>?_) out
 obtain⟨k,rfl⟩:∃k',k=k'+1:=⟨k - 1,by omega⟩
 try dsimp only
 simp only[Si]
 walk_at "ev"
 refine ix_l (rN _ _) (get hn) ?_
 try walk_at "ev"
 refine⟨n,M.length,1064+dsd.length,kv,rfl,rH _ _,⟨mi,by omega,by omega⟩,nb,hg,?_⟩
 cases e:stp kv n with
 | none=>
  refine⟨hc,?_⟩
  try walk_at "ev"
  refine⟨Z2 (by decide),?_⟩
  rw[←inv,Eb hn hg e,List.append_nil] at q
  exact q
 | some s=>
  obtain⟨mi',len',gs'⟩:=Qe mi (by omega) nb e
  rw[Ev hn e] at inv
  have hs:=ngs _ gs'
  show _
  dsimp only[onS]
  try walk_at "ev"
  simp only[Sk]
  walk_at "ev"
  refine⟨Xb (Z3 (rDs _ _)),_,rDs _ _,Zl (by omega),?_⟩
  rw[sDs]
  try walk_at "ev"
  refine ix_l (rN _ _) (get hn) ?_
  try walk_at "ev"
  have fin:∀d7,∃m',m'<k+1∧∃(pl:Nat) (kv':List (Key×D)) (dsd':List D) (d:Option D),[some (.ref a),some (.int (p0:Nat)),some (.ref mm),some (.int (most:Nat)),some (.ref M.length),some (.ref (M.length+1)),some (.int (s.2.2:Nat)),d7,none]=[some (.ref a),some (.int (p0:Nat)),some (.ref mm),some (.int (most:Nat)),some (.ref M.length),some (.ref (M.length+1)),some (.int (pl:Nat)),d,none]∧(M++[.dct s.2.1,.lst (dsd++[s.1])]:Z1)=M++[.dct kv',.lst dsd']∧dsd'.length+m'=most∧pl<nds.length∧MI (1064+dsd'.length) kv'∧kv'.length≤500+dsd'.length∧(dsd'++(runN nds m' pl kv').1,(runN nds m' pl kv').2)=runN nds most p0 kvs:=by
   intro d7
   refine⟨k,by omega,s.2.2,s.2.1,dsd++[s.1],d7,rfl,rfl,by rw[List.length_append,List.length_singleton];omega,hs,by rw[List.length_append,List.length_singleton];exact mi',by rw[List.length_append,List.length_singleton];omega,?_⟩
   rw[←inv,List.append_assoc]
   rfl
  cases n with
  | sum x o1 sg o2 t=>
   rw[X5,Option.map_eq_some_iff] at e
   obtain⟨w,e,rfl⟩:=e
   refine⟨_,_,M.length,rfl,_,_,_,_,_,_,_,rfl,rH _ _,Zl (by omega),?_⟩
   rw[sH]
   try walk_at "ev"
   exact fin _
  | test o1 sg o2 y z=>
   cases e
   refine⟨_,_,M.length,rfl,_,_,_,_,_,rfl,?_⟩
   try walk_at "ev"
   exact fin _
  | fin=>cases hg
  | spin=>cases hg
end
noncomputable def chs(rows:List Rw):Nat→Nat→Option Nat
 | 0,_=>none
 | f+1,p=>match jmp rows p with
  | some q=>chs rows f q
  | none=>some p
noncomputable def runG(nds:List Nd)(f:Nat→Option Nat):Nat→Option Nat→List (Key×D)→List D×Str×List (Key×D)
 | _,none,kv=>([],"on",kv)
 | 0,some p,kv=>([],wrd nds[p]?,kv)
 | k+1,some p,kv=>match nds[p]? with
  | some n=>match stp kv n with
   | some s=>(s.1::(runG nds f k (f s.2.2) s.2.1).1,(runG nds f k (f s.2.2) s.2.1).2)
   | none=>([],if n.goes=true then "fault" else wrd (some n),kv)
  | none=>([],"on",kv)
noncomputable def nds0(rows:List Rw):List Nd:=Yr rows (fun p=>p)
noncomputable def lawC(rows:List Rw)(k:Nat)(c:Option Nat)(kv:List (Key×D)):List D×Str×List (Key×D):=runG (nds0 rows) (chs rows (rows.length+1)) k c kv
theorem Zp(rows:List Rw)(k:Nat)(kv:List (Key×D)):lawC rows k none kv=([],("on":Str),kv):=by unfold lawC;cases k<;>rfl
theorem W3{rows:List Rw}{k p:Nat}{kv:List (Key×D)}{n:Nd}{s:D×List (Key×D)×Nat}(h:(nds0 rows)[p]?=some n)(e:stp kv n=some s):lawC rows (k+1) (some p) kv=(s.1::(lawC rows k (chs rows (rows.length+1) s.2.2) s.2.1).1,(lawC rows k (chs rows (rows.length+1) s.2.2) s.2.1).2):=by
 unfold lawC
 show(match (nds0 rows)[p]? with | some n=>(match stp kv n with | some s=>(s.1::(runG (nds0 rows) (chs rows (rows.length+1)) k (chs rows (rows.length+1) s.2.2) s.2.1).1,(runG (nds0 rows) (chs rows (rows.length+1)) k (chs rows (rows.length+1) s.2.2) s.2.1).2) | none=>([],if n.goes=true then "fault" else wrd (some n),kv)) | none=>([],"on",kv))=_
 rw[h];dsimp only;rw[e]
theorem Wi{rows:List Rw}{k p:Nat}{kv:List (Key×D)}{n:Nd}(h:(nds0 rows)[p]?=some n)(g:n.goes=true)(e:stp kv n=none):lawC rows (k+1) (some p) kv=([],("fault":Str),kv):=by
 unfold lawC
 show(match (nds0 rows)[p]? with | some n=>(match stp kv n with | some s=>(s.1::(runG (nds0 rows) (chs rows (rows.length+1)) k (chs rows (rows.length+1) s.2.2) s.2.1).1,(runG (nds0 rows) (chs rows (rows.length+1)) k (chs rows (rows.length+1) s.2.2) s.2.1).2) | none=>([],if n.goes=true then "fault" else wrd (some n),kv)) | none=>([],"on",kv))=_
 rw[h];dsimp only;rw[e,g];rfl
theorem Ym{rows:List Rw}{k p:Nat}{kv:List (Key×D)}{n:Nd}(h:(nds0 rows)[p]?=some n)(g:n.goes=false∨k=0):lawC rows k (some p) kv=([],wrd (some n),kv):=by
 unfold lawC
 cases k with
 | zero=>show([],wrd (nds0 rows)[p]?,kv)=_;rw[h]
 | succ k=>
  have g:=g.resolve_right (Nat.succ_ne_zero k)
  have e:stp kv n=none:=by cases n<;>first | rfl | cases g
  show(match (nds0 rows)[p]? with | some n=>(match stp kv n with | some s=>(s.1::(runG (nds0 rows) (chs rows (rows.length+1)) k (chs rows (rows.length+1) s.2.2) s.2.1).1,(runG (nds0 rows) (chs rows (rows.length+1)) k (chs rows (rows.length+1) s.2.2) s.2.1).2) | none=>([],if n.goes=true then "fault" else wrd (some n),kv)) | none=>([],"on",kv))=_
  rw[h];dsimp only;rw[e,g];rfl
theorem Xw{rows:List Rw}{f p q:Nat}(h:jmp rows p=some q):chs rows (f+1) p=chs rows f q:=by
 show(match jmp rows p with | some q=>chs rows f q | none=>some p)=_
 rw[h]
theorem Xx{rows:List Rw}{f p:Nat}(h:jmp rows p=none):chs rows (f+1) p=some p:=by
 show(match jmp rows p with | some q=>chs rows f q | none=>some p)=_
 rw[h]
theorem Ou{rows:List Rw}(ok:RwOk rows){L:Nat→Nat}(ln:Lands rows L):∀(f p r:Nat),p<rows.length→chs rows f p=some r→L p=r∧jmp rows r=none∧r<rows.length
 | 0,p,r,_,h=>by cases h
 | f+1,p,r,hp,h=>by
  cases e:jmp rows p with
  | none=>rw[Xx e] at h;cases h;exact⟨ln.no _ hp e,e,hp⟩
  | some q=>
   rw[Xw e] at h
   obtain⟨a,b,c⟩:=Ou ok ln f q r (Jx ok e) h
   exact⟨(ln.yes _ _ hp e).trans a,b,c⟩
noncomputable def itJ(J:Nat→Option Nat):Nat→Nat→Option Nat
 | 0,p=>some p
 | n+1,p=>match itJ J n p with
  | some q=>J q
  | none=>none
theorem Jf{J:Nat→Option Nat}{n p q:Nat}(h:itJ J n p=some q):itJ J (n+1) p=J q:=by
 show(match itJ J n p with | some q=>J q | none=>none)=_
 rw[h]
theorem Tj{J:Nat→Option Nat}{p q:Nat}(h:J p=some q):∀n,itJ J (n+1) p=itJ J n q
 | 0=>by rw[Jf (show itJ J 0 p=some p from rfl)];exact h
 | n+1=>by
  show(match itJ J (n+1) p with | some q=>J q | none=>none)=(match itJ J n q with | some q=>J q | none=>none)
  rw[Tj h n]
theorem Q0{J:Nat→Option Nat}{p:Nat}:∀{n m:Nat},m≤n→(itJ J n p).isSome=true→(itJ J m p).isSome=true
 | 0,m,h,e=>by rw[Nat.le_zero.mp h];exact e
 | n+1,m,h,e=>by
  rcases Nat.lt_or_eq_of_le h with h | h
  ·refine Q0 (Nat.le_of_lt_succ h) ?_
   cases e2:itJ J n p with
   | some q=>rfl
   | none=>
    have:itJ J (n+1) p=none:=by show(match itJ J n p with | some q=>J q | none=>none)=_;rw[e2]
    rw[this] at e;cases e
  ·rw[h];exact e
theorem Ek{J:Nat→Option Nat}{p i j:Nat}(h:itJ J i p=itJ J j p):∀d,itJ J (i+d) p=itJ J (j+d) p
 | 0=>h
 | d+1=>by
  show(match itJ J (i+d) p with | some q=>J q | none=>none)=(match itJ J (j+d) p with | some q=>J q | none=>none)
  rw[Ek h d]
theorem Zz5{J:Nat→Option Nat}{p r:Nat}(h:LN.Orb J p r):∃t,itJ J t p=some r:=by
 induction h with
 | refl p=>exact⟨0,rfl⟩
 | step e _ ih=>obtain⟨t,ht⟩:=ih;exact⟨t+1,by rw[Tj e];exact ht⟩
theorem Zk8{J:Nat→Option Nat}{N p r t:Nat}(lt:∀p q,p<N→J p=some q→q<N)(hp:p<N)(h:itJ J t p=some r)(hr:J r=none):t<N:=by
 have some_:∀i,i≤t→∃q,itJ J i p=some q∧q<N:=by
  intro i hi
  induction i with
  | zero=>exact⟨p,rfl,hp⟩
  | succ i ih=>
   obtain⟨q,e,hq⟩:=ih (by omega)
   have:=Q0 hi (by rw[h];rfl)
   obtain⟨q2,e2⟩:=Option.isSome_iff_exists.mp this
   rw[Jf e] at e2
   exact⟨q2,by rw[Jf e];exact e2,lt _ _ hq e2⟩
 have inj:∀i j,i<j→j≤t→itJ J i p≠itJ J j p:=by
  intro i j hij hj e
  have e2:=Ek e (t - j)
  rw[show j+(t - j)=t by omega,h] at e2
  have e3:=Jf e2
  rw[hr] at e3
  obtain⟨q,e4,_⟩:=some_ (i+(t - j)+1) (by omega)
  rw[e3] at e4;cases e4
 have:=ND.Qa N ((List.range (t+1)).map fun i=>(itJ J i p).getD 0) ?_ ?_
 ·rw[List.length_map,List.length_range] at this;omega
 ·rw[List.nodup_iff_pairwise_ne,List.pairwise_map]
  refine List.Pairwise.imp_of_mem ?_ List.pairwise_lt_range
  intro i j hi hj hij e
  rw[List.mem_range] at hi hj
  obtain⟨q1,e1,_⟩:=some_ i (by omega)
  obtain⟨q2,e2,_⟩:=some_ j (by omega)
  rw[e1,e2] at e
  have e:q1=q2:=e
  exact inj i j hij (by omega) (by rw[e1,e2,e])
 ·intro x hx
  obtain⟨i,hi,rfl⟩:=List.mem_map.mp hx
  rw[List.mem_range] at hi
  obtain⟨q,e,hq⟩:=some_ i (by omega)
  rw[e];exact hq
theorem Fs{rows:List Rw}{r:Nat}(hr:jmp rows r=none):∀(t p f:Nat),itJ (jmp rows) t p=some r→t<f→chs rows f p=some r
 | 0,p,f+1,h,_=>by cases h;exact Xx hr
 | t+1,p,f+1,h,hf=>by
  cases e:jmp rows p with
  | none=>
   have:(itJ (jmp rows) 1 p).isSome=true:=Q0 (n:=t+1) (m:=1) (by omega) (by rw[h];rfl)
   rw[Jf (show itJ (jmp rows) 0 p=some p from rfl),e] at this
   cases this
  | some q=>
   rw[Xw e]
   rw[Tj e] at h
   exact Fs hr t q f h (by omega)
 | _,_,0,_,h=>by omega
theorem Zf6{rows:List Rw}(ok:RwOk rows){L:Nat→Nat}(ln:Lands rows L){p:Nat}(hp:p<rows.length)(h:chs rows (rows.length+1) p=none):∃q,jmp rows (L p)=some q:=by
 cases e:jmp rows (L p) with
 | some q=>exact⟨q,rfl⟩
 | none=>
  obtain⟨t,ht⟩:=Zz5 (ln.orb p hp)
  have:=Zk8 (N:=rows.length) (fun a b _ hab=>Jx ok hab) hp ht e
  rw[Fs e t p _ ht (by omega)] at h
  cases h
theorem Fp(rows:List Rw)(L:Nat→Nat)(p:Nat)(kv:List (Key×D))(r:Rw):stp kv (r.node rows L p)=(stp kv (r.node rows (fun p=>p) p)).map fun s=>(s.1,s.2.1,L s.2.2):=by
 cases r with
 | sum k x a sg b=>
  show stp kv (.sum x a sg b (L (p+1)))=(stp kv (.sum x a sg b (p+1))).map _
  rw[X5,X5,Option.map_map]
  rfl
 | test k a sg b g=>
  show some _=some _
  dsimp only[Option.some.injEq]
  split<;>rfl
 | jump k g=>rfl
 | fin k=>rfl
theorem Fl{rows:List Rw}(ok:RwOk rows){L:Nat→Nat}(ln:Lands rows L){p:Nat}(hp:p<rows.length)(e:chs rows (rows.length+1) p=none){k:Nat}{kv:List (Key×D)}:runN (Yr rows L) k (L p) kv=([],("on":Str),kv):=by
 obtain⟨q,hq⟩:=Zf6 ok ln hp e
 obtain⟨r,hr⟩:∃r,rows[L p]?=some r:=⟨_,List.getElem?_eq_getElem (ln.lt p hp)⟩
 have hn:=Za (L:=L) hr
 have:r.node rows L (L p)= .spin:=by
  unfold jmp at hq
  rw[hr] at hq
  cases r with
  | jump _ _=>rfl
  | _=>cases hq
 rw[this] at hn
 rw[Su hn (.inl rfl)]
 rfl
theorem Nt(rows:List Rw)(L L':Nat→Nat)(p:Nat)(r:Rw):(r.node rows L p).goes=(r.node rows L' p).goes∧wrd (some (r.node rows L p))=wrd (some (r.node rows L' p)):=by cases r<;>exact⟨rfl,rfl⟩
theorem J1{rows:List Rw}(ok:RwOk rows){p:Nat}{r:Rw}(hr:rows[p]?=some r){kv:List (Key×D)}{s:D×List (Key×D)×Nat}(e:stp kv (r.node rows (fun p=>p) p)=some s):s.2.2<rows.length:=by
 cases r with
 | sum k x a sg b=>
  have e:stp kv (.sum x a sg b (p+1))=some s:=e
  rw[X5,Option.map_eq_some_iff] at e
  obtain⟨w,_,rfl⟩:=e
  exact ok.last _ _ hr rfl
 | test k a sg b g=>
  cases e
  dsimp only
  split
  ·exact Pv (ok.goal _ (List.mem_of_getElem? hr) g rfl)
  ·exact ok.last _ _ hr rfl
 | jump k g=>cases e
 | fin k=>cases e
theorem Y53{rows:List Rw}(ok:RwOk rows){L:Nat→Nat}(ln:Lands rows L):∀(k p:Nat) (kv:List (Key×D)),p<rows.length→lawC rows k (chs rows (rows.length+1) p) kv=runN (Yr rows L) k (L p) kv:=by
 intro k
 induction k with
 | zero=>
  intro p kv hp
  cases e:chs rows (rows.length+1) p with
  | none=>
   rw[Zp,Fl ok ln hp e]
  | some q=>
   obtain⟨a,b,c⟩:=Ou ok ln _ _ _ hp e
   obtain⟨r,hr⟩:∃r,rows[q]?=some r:=⟨_,List.getElem?_eq_getElem c⟩
   rw[a,Ym (Za hr) (.inr rfl),Su (Za hr) (.inr rfl),(Nt rows _ L q r).2]
 | succ k ih=>
  intro p kv hp
  cases e:chs rows (rows.length+1) p with
  | none=>
   rw[Zp,Fl ok ln hp e]
  | some q=>
   obtain⟨a,b,c⟩:=Ou ok ln _ _ _ hp e
   obtain⟨r,hr⟩:∃r,rows[q]?=some r:=⟨_,List.getElem?_eq_getElem c⟩
   rw[a]
   have hg:=Nt rows (fun p=>p) L q r
   cases es:stp kv (r.node rows (fun p=>p) q) with
   | none=>
    have eL:stp kv (r.node rows L q)=none:=by rw[Fp,es];rfl
    cases g:(r.node rows (fun p=>p) q).goes with
    | true=>rw[Wi (Za hr) g es,Eb (Za hr) (hg.1 ▸ g) eL]
    | false=>rw[Ym (Za hr) (.inl g),Su (Za hr) (.inl (hg.1 ▸ g)),hg.2]
   | some s=>
    have eL:stp kv (r.node rows L q)=some (s.1,s.2.1,L s.2.2):=by rw[Fp,es];rfl
    rw[W3 (Za hr) es,Ev (Za hr) eL,ih s.2.2 s.2.1 (J1 ok hr es)]
noncomputable def rn(r:Rw):Nd:=r.node [] (fun _=>0) 0
noncomputable def six:List Str:=["+","-","/","rest","&","^"]
def SG:Rw→Prop
 | .sum _ _ _ sg _=>sg∈six
 | _=>True
def RB(r:Rw):Prop:=NB (rn r)∧SG r
noncomputable def lawR(rows:List Rw)(most:Nat)(kvs:List (Key×D)):List D×Str×List (Key×D):=lawC rows most (chs rows (rows.length+1) 0) kvs
theorem Zi0{rows:List Rw}(ok:RwOk rows)(rb:∀r∈rows,RB r){L:Nat→Nat}(ln:Lands rows L):Zw9 (Yr rows L):=by
 intro n hn
 obtain⟨p,hp,e⟩:=List.mem_iff_getElem.mp hn
 rw[X6] at hp
 obtain⟨r,hr⟩:∃r,rows[p]?=some r:=⟨_,List.getElem?_eq_getElem hp⟩
 have h2:=Za (L:=L) hr
 rw[List.getElem?_eq_getElem (by rw[X6];exact hp),e] at h2
 cases h2
 have hb:=(rb r (List.mem_of_getElem? hr)).1
 rw[X6]
 cases r with
 | sum k x a sg b=>exact⟨hb,fun t ht=>by cases List.mem_singleton.mp ht;exact ln.lt _ (ok.last _ _ hr rfl)⟩
 | test k a sg b g=>
  refine⟨hb,fun t ht=>?_⟩
  rcases List.mem_cons.mp ht with rfl | ht
  ·exact ln.lt _ (ok.last _ _ hr rfl)
  ·cases List.mem_singleton.mp ht;exact ln.lt _ (Pv (ok.goal _ (List.mem_of_getElem? hr) g rfl))
 | jump k g=>exact⟨trivial,fun t ht=>by cases ht⟩
 | fin k=>exact⟨trivial,fun t ht=>by cases ht⟩
def Y5:DSp:=fun ds M Q _=>∃(a mm most:Nat) (rows:List Rw) (kvs:List (Key×D)),ds=[.ref a,.ref mm,.int (most:Nat)]∧Zg M a=some (rows.map Rw.d)∧RwOk rows∧(∀r∈rows,RB r)∧Zd M mm=some kvs∧MI 1064 kvs∧kvs.length≤500∧most≤1000∧
 ∀M' r h,Kp M M'→Zi M' r=some (lawR rows most kvs).1→Zd M' h=some (lawR rows most kvs).2.2→M.length≤r→M.length≤h→Q (.tup [.ref r,.str (lawR rows most kvs).2.1,.ref h]) M'
section
variable{K:PySem.W.Frag}
theorem Y78{Γ G}(g9:Γ[9]?=some Zb)(g11:Γ[11]?=some Zo):∀ds M Q Z,Y5 ds M Q Z→tss ⟨K,Γ,G⟩ noX b_run {nx:=fun _ M=>Q .non M,rt:=Q} (start0 Ze6 ds) M:=by
 rintro ds M Q Z ⟨a,mm,most,rows,kvs,rfl,ha,ok,rb,hd,mi,kl,hm,q⟩
 simp only[b_run,Ze6]
 walk_at "ev"
 refine⟨a,rows,rfl,ha,ok,fun L M1 r ln k1 hw hr=>?_⟩
 walk_at "ev"
 refine⟨r,L 0,mm,most,_,kvs,rfl,Z3 hw,k1.D hd,Zi0 ok rb ln,by rw[X6];exact ln.lt _ ok.pos,mi,kl,hm,?_⟩
 have e:runN (Yr rows L) most (L 0) kvs=lawR rows most kvs:=(Y53 ok ln most 0 kvs ok.pos).symm
 rw[e]
 obtain⟨X,rfl⟩:=k1
 refine q _ _ _ ((Kp.new _ _).app _) (by rw[Tz];rfl) (Yo _ _ _) ?_ ?_
 ·rw[List.length_append];omega
 ·rw[List.length_append];omega
theorem Zf7{Γ G}:∀ds M Q Z,Z8 ds M Q Z→tss ⟨K,Γ,G⟩ noX b_Lworth {nx:=fun _ M=>Q .non M,rt:=Q} (start0 Sv ds) M:=by
 rintro ds M Q Z ⟨o,h,n,kvs,rfl,hd,hm,q⟩
 simp only[b_Lworth,Sv]
 cases o with
 | no i=>
  simp only[Opd.d]
  walk_at "ev"
  simp only[O2]
  walk_at "ev"
  exact q
 | nm x=>
  simp only[Opd.d]
  walk_at "ev"
  refine⟨by rw[hd];rfl,kvs,_,hd,rfl,?_⟩
  rw[hm.get]
  exact q
theorem Z51{sg:Str}{a b:Int}:mkS sg a b=none↔b=0∧(sg="/"∨sg="rest"):=by
 unfold mkS
 constructor
 ·intro h
  split at h
  ·cases h
  split at h
  ·cases h
  split at h
  ·rename_i e;split at h
   ·rename_i z;exact⟨z,.inl e⟩
   ·cases h
  split at h
  ·rename_i e;split at h
   ·rename_i z;exact⟨z,.inr e⟩
   ·cases h
  split at h<;>cases h
 ·rintro⟨rfl,rfl | rfl⟩
  ·rw[if_neg (by decide+kernel),if_neg (by decide+kernel),if_pos rfl,if_pos rfl]
  ·rw[if_neg (by decide+kernel),if_neg (by decide+kernel),if_neg (by decide+kernel),if_pos rfl,if_pos rfl]
theorem Zt3(sg:Str):inD (.str sg) [.str "/",.str "rest"]=decide (sg="/"∨sg="rest"):=by
 show((("/":Str)==sg) || ((("rest":Str)==sg) || false))=_
 rw[Bool.or_false,Bool.eq_iff_iff]
 simp only[Bool.or_eq_true,beq_iff_eq,decide_eq_true_eq]
 exact⟨fun h=>h.imp Eq.symm Eq.symm,fun h=>h.imp Eq.symm Eq.symm⟩
end
def KI(kvs:List (Key×D)):Prop:=∀k v,(k,v)∈kvs→valD kvs k=some v∧∃i:Int,v= .int i
theorem Zc0{m:List (Key×D)}{x k:Key}{w v:D}(h:(k,v)∈putD m x w):(k=x∧v=w)∨(k≠x∧(k,v)∈m):=by
 unfold putD at h
 split at h
 ·obtain⟨⟨a,b⟩,h1,h2⟩:=List.mem_map.mp h
  dsimp only at h2
  split at h2
  ·rename_i e;cases h2;exact .inl ⟨e,rfl⟩
  ·rename_i e;cases h2;exact .inr ⟨e,h1⟩
 ·rename_i hn
  rcases List.mem_append.mp h with h | h
  ·refine .inr ⟨fun e=>hn ?_,h⟩
   rw[List.any_eq_true]
   exact⟨_,h,by simp[e]⟩
  ·cases List.mem_singleton.mp h;exact .inl ⟨rfl,rfl⟩
theorem KI.put{m:List (Key×D)}(h:KI m)(x:Key)(i:Int):KI (putD m x (.int i)):=by
 intro k v e
 rw[Tc]
 rcases Zc0 e with⟨rfl,rfl⟩ | ⟨hne,e⟩
 ·rw[if_pos rfl];exact⟨rfl,i,rfl⟩
 ·rw[if_neg (Ne.symm hne)];exact h k v e
def Dd(d:D):Prop:=∃l:List D,d= .tup l∧l.length≤6∧l.all Z21=true
theorem Z74{kv:List (Key×D)}{n:Nd}{s:D×List (Key×D)×Nat}(h:KI kv)(e:stp kv n=some s):KI s.2.1∧s.2.1.length≤kv.length+1∧Dd s.1:=by
 cases n with
 | sum x a sg b t=>
  rw[X5,Option.map_eq_some_iff] at e
  obtain⟨w,_,rfl⟩:=e
  exact⟨h.put _ _,Wz _ _ _,_,rfl,by simp,rfl⟩
 | test a sg b y z=>cases e;exact⟨h,Nat.le_succ _,_,rfl,by simp,rfl⟩
 | fin=>cases e
 | spin=>cases e
structure Tl(R:List D×Str×List (Key×D))(l k:Nat):Prop where
 ki:KI R.2.2
 len:R.2.2.length≤l+k
 few:R.1.length≤k
 dd:∀d∈R.1,Dd d
theorem B2(nds:List Nd)(f:Nat→Option Nat):∀(k:Nat) (c:Option Nat) (kv:List (Key×D)),KI kv→Tl (runG nds f k c kv) kv.length k:=by
 intro k
 have no:∀(w:Str) (k:Nat) (kv:List (Key×D)),KI kv→Tl ([],w,kv) kv.length k:=fun w k kv h=>⟨h,Nat.le_add_right _ _,Nat.zero_le _,fun d hd=>by cases hd⟩
 induction k with
 | zero=>
  intro c kv h
  cases c with
  | none=>exact no _ _ _ h
  | some p=>exact no _ _ _ h
 | succ k ih=>
  intro c kv h
  cases c with
  | none=>exact no _ _ _ h
  | some p=>
   show Tl (match nds[p]? with | some n=>(match stp kv n with | some s=>(s.1::(runG nds f k (f s.2.2) s.2.1).1,(runG nds f k (f s.2.2) s.2.1).2) | none=>([],if n.goes=true then "fault" else wrd (some n),kv)) | none=>([],"on",kv)) _ _
   cases nds[p]? with
   | none=>exact no _ _ _ h
   | some n=>
    dsimp only
    cases e:stp kv n with
    | none=>exact no _ _ _ h
    | some s=>
     obtain⟨h1,h2,h3⟩:=Z74 h e
     obtain⟨a,b,c,d⟩:=ih (f s.2.2) s.2.1 h1
     exact⟨a,by dsimp only;omega,by dsimp only;rw[List.length_cons];omega,fun x hx=>by
      rcases List.mem_cons.mp hx with rfl | hx
      ·exact h3
      ·exact d x hx⟩
theorem Tu(rows:List Rw)(most:Nat){kv:List (Key×D)}(h:KI kv):Tl (lawR rows most kv) kv.length most:=B2 _ _ _ _ _ h
def W8:DSp:=fun ds M Q _=>∃(a b:Nat) (kvs:List (Key×D)),ds=[.ref a,.ref b]∧Zd M a=some kvs∧Zd M b=some kvs∧a≠b∧KI kvs∧Q (.bl true) M
theorem AL.dd{M:Z1}{d:D}(h:Dd d):AL M 1 d d:=by
 obtain⟨l,rfl,hl,hf⟩:=h
 refine .inr (.inl ⟨l,l,rfl,rfl,rfl,by omega,fun i a b h1 h2=>?_⟩)
 rw[h1] at h2
 cases h2
 exact⟨rfl,List.all_eq_true.mp hf _ (List.mem_of_getElem? h1)⟩
theorem AL.dds{M:Z1}{r s:Nat}{l:List D}(h1:Zi M r=some l)(h2:Zi M s=some l)(hl:l.length≤100000)(h:∀d∈l,Dd d):AL M 2 (.ref r) (.ref s):=
 .inr (.inr ⟨r,s,l,l,rfl,rfl,h1,h2,rfl,hl,fun i a b e1 e2=>by rw[e1] at e2;cases e2;exact AL.dd (h _ (List.mem_of_getElem? e1))⟩)
section
variable{K:PySem.W.Frag}
theorem Zu9{Γ G}(g15:Γ[21]?=some (Y2 2)):∀ds M Q Z,W8 ds M Q Z→tss ⟨K,Γ,G⟩ noX b_Lsame_memory {nx:=fun _ M=>Q .non M,rt:=Q} (start0 X7 ds) M:=by
 rintro ds M Q Z ⟨a,b,kvs,rfl,ha,hb,hab,hv,q⟩
 have i1:∀{t:Ty} {B:Bool→Prop},isD K M (.ref a) (.ty (Yt t)) B=B (tyDct t):=fun{t B}=>Zn0 ha
 simp only[b_Lsame_memory,X7]
 walk_at "ev"
 simp only[i1]
 walk_at "ev"
 refine .inr ⟨kvs,ha,.inr ⟨kvs,hb,?_⟩⟩
 walk_at "ev"
 rw[if_neg (by simp)]
 try walk_at "ev"
 simp only[Wq]
 walk_at "ev"
 refine⟨kvs,hb,?_⟩
 have hbM:=We hb
 have hbl:b<M.length:=X4 hb
 have fz:(M.set b (.fdc kvs))[b]?=some (.fdc kvs):=by rw[List.getElem?_set_self hbl]
 have ra:Zd (M.set b (.fdc kvs)) a=some kvs:=by rw[Sg (Ne.symm hab)];exact ha
 have back:(M.set b (.fdc kvs)).set b (.dct kvs)=M:=by
  rw[List.set_set]
  apply List.ext_getElem?
  intro i
  by_cases e:b=i
  ·subst e;rw[List.getElem?_set_self hbl,hbM]
  ·rw[List.getElem?_set_ne e]
 refine S3 (fun i σ M'=>∃d2,σ=[some (.ref a),some (.ref b),d2]∧M'=M.set b (.fdc kvs)) ⟨none,rfl,rfl⟩ ?_ ?_ ?_
 ·rintro i σ M' _ ⟨d2,rfl,rfl⟩
  exact⟨kvs,fz,rfl⟩
 ·rintro i dx σ M' C hx ⟨d2,rfl,rfl⟩ hC
  unfold Og at hx
  rw[List.getElem?_map,Option.map_eq_some_iff] at hx
  obtain⟨⟨k,v⟩,hk,rfl⟩:=hx
  obtain⟨e1,j,rfl⟩:=hv k v (List.mem_of_getElem? hk)
  have kd:keyD (kD k)=some k:=by cases k<;>rfl
  simp only[Wo]
  walk_at "ev"
  have hin:∀F:Bool→Prop,F true→inQ (M.set b (.fdc kvs)) (kD k) (.ref a) F:=by
   intro F hF
   have:inQ (M.set b (.fdc kvs)) (kD k) (.ref a) F=((∃xs,Zg (M.set b (.fdc kvs)) a=some xs∧Xk (kD k)=true∧xs.all Xk=true∧F (inD (kD k) xs))∨(∃kvs' k',Zd (M.set b (.fdc kvs)) a=some kvs'∧keyD (kD k)=some k'∧F (valD kvs' k').isSome)):=by cases k<;>rfl
   rw[this]
   exact .inr ⟨kvs,k,ra,kd,by rw[e1];exact hF⟩
  refine hin _ ?_
  try walk_at "ev"
  refine ix_d ra kd e1 (ix_f fz kd e1 ?_)
  try walk_at "ev"
  refine⟨_,_,rfl,AL.flat rfl,?_⟩
  try walk_at "ev"
  exact hC _ _ ⟨_,rfl,rfl⟩
 ·rintro σ M' ⟨d2,rfl,rfl⟩
  refine⟨kvs,fz,?_⟩
  rw[back]
  simp only[Wp]
  walk_at "ev"
  exact q
end
theorem Ca{M:Z1}{a b:Nat}{c:Cell}(h:a≠b):Zi (M.set a c) b=Zi M b:=by unfold Zi;rw[List.getElem?_set_ne h]
theorem Nk{M:Z1}{a:Nat}{xs:List D}(h:Zi M a=some xs):a<M.length:=by
 unfold Zi at h
 by_cases z:a<M.length
 ·exact z
 ·rw[List.getElem?_eq_none (by omega)] at h;cases h
theorem Zy6{M:Z1}{a:Nat}{xs:List D}(h:Zg M a=some xs):a<M.length:=by
 unfold Zg at h
 by_cases z:a<M.length
 ·exact z
 ·rw[List.getElem?_eq_none (by omega)] at h;cases h
theorem Cy{M:Z1}{a:Nat}{ys xs:List D}(h:Zi M a=some ys):Zi (M.set a (.lst xs)) a=some xs:=by
 have:=Nk h
 unfold Zi
 rw[List.getElem?_set_self this]
def Dr(M:Z1)(r:Nat):Prop:=∃l:List Nat,Zi M r=some (natD l)
structure Ke(r:Nat)(M M':Z1):Prop where
 len:M.length≤M'.length
 same:∀x,x<M.length→x≠r→M'[x]?=M[x]?
 dr:Dr M' r
section
variable{r a z:Nat}{M M' M1 M2:Z1}{xs:List D}
theorem Ke.refl(h:Dr M r):Ke r M M:=⟨Nat.le_refl _,fun _ _ _=>rfl,h⟩
theorem Ke.trans(h:Ke r M M1)(g:Ke r M1 M2):Ke r M M2:=⟨Nat.le_trans h.len g.len,fun x hx hn=>by rw[g.same x (Nat.lt_of_lt_of_le hx h.len) hn,h.same x hx hn],g.dr⟩
theorem Ke.app(h:Ke r M M1)(N:Z1):Ke r M (M1++N):=⟨by rw[List.length_append];have:=h.len;omega,fun x hx hn=>by rw[List.getElem?_append_left (by have:=h.len;omega)];exact h.same x hx hn,by obtain⟨l,e⟩:=h.dr;exact⟨l,Ze e⟩⟩
theorem Ke.W(h:Ke r M M')(hx:a≠r)(e:Zi M a=some xs):Zi M' a=some xs:=by
 have:=Nk e
 unfold Zi at e ⊢
 rw[h.same a this hx]
 exact e
theorem Ke.L(h:Ke r M M')(hx:a≠r)(e:Zg M a=some xs):Zg M' a=some xs:=by
 have:=Zy6 e
 unfold Zg at e ⊢
 rw[h.same a this hx]
 exact e
theorem Ke.set(h:Ke r M M')(hz:M.length≤z)(hr:z≠r)(c:Cell):Ke r M (M'.set z c):=⟨by rw[List.length_set];exact h.len,fun x hx hn=>by rw[List.getElem?_set_ne (by omega)];exact h.same x hx hn,by obtain⟨l,e⟩:=h.dr;exact⟨l,by rw[Ca hr];exact e⟩⟩
theorem Dr.lt(h:Dr M r):r<M.length:=by obtain⟨l,e⟩:=h;exact Nk e
theorem Dr.app(h:Dr M r)(N:Z1):Dr (M++N) r:=by obtain⟨l,e⟩:=h;exact⟨l,Ze e⟩
theorem Dr.kp(h:Dr M r)(k:Kp M M1):Dr M1 r:=by obtain⟨N,rfl⟩:=k;exact h.app N
theorem Ke.take{l:List Nat}(h:r<M.length)(N:Z1):Ke r M ((M++N).set r (.lst (natD l))):=by
 refine⟨by rw[List.length_set,List.length_append];omega,fun x hx hn=>?_,l,?_⟩
 ·rw[List.getElem?_set_ne (fun e=>hn e.symm),List.getElem?_append_left hx]
 ·unfold Zi;rw[List.getElem?_set_self (by rw[List.length_append];omega)]
end
def Yj:DSp:=fun ds M Q _=>∃r:Nat,ds=[.ref r]∧Dr M r∧∀(x:Nat) M',Ke r M M'→Q (.int x) M'
def Yb:DSp:=fun ds M Q _=>∃r:Nat,ds=[.ref r]∧Dr M r∧∀(v:Int) M',Bits 64 v→Ke r M M'→Q (.int v) M'
theorem Cz{M:Z1}{x y:Nat}{l:List Nat}{B:Bool→Prop}(h1:Zg M x=some (natD l))(h2:Zg M y=some [])(q:B l.isEmpty):eqD M (.ref x) (.ref y) B:=by
 have pd:∀l:List Nat,PDs M (l.map fun(x:Nat)=>PyData.int (x:Int)) (natD l):=by
  intro l
  induction l with
  | nil=>rfl
  | cons x r ih=>exact⟨_,_,rfl,rfl,ih⟩
 have lay:∀l:List Nat,PyData.canLayAll0 (l.map fun(x:Nat)=>PyData.int (x:Int))=true:=by
  intro l
  induction l with
  | nil=>rw[List.map_nil,PyData.canLayAll0]
  | cons x r ih=>rw[List.map_cons];unfold PyData.canLayAll0;rw[ih];rfl
 refine .inl ⟨.list (l.map fun(x:Nat)=>PyData.int (x:Int)),.list [],⟨x,_,rfl,h1,pd l⟩,⟨y,_,rfl,h2,rfl⟩,lay l,rfl,?_,?_⟩
 ·exact Nat.le_trans (Nat.min_le_right _ _) (by decide)
 ·cases l with
  | nil=>exact q
  | cons p r=>exact q
theorem pick{M:Z1}{a:Nat}{xs:List D}{i:Int}{F:D→Prop}(h:Zg M a=some xs)(h0:0≤i)(h1:i<xs.length)(q:∀d∈xs,F d):ixD M (.ref a) (.int i) F:=by
 obtain⟨d,e1,e2⟩:=Y70 h0 h1
 exact Y72 h e1 (q d e2)
theorem Ra{M:Z1}{a:Nat}{xs:List D}{i m:Int}{F:D→Prop}(h:Zg M a=some xs)(h1:m=xs.length)(h2:0<m)(q:∀d∈xs,F d):ixD M (.ref a) (.int (qmod i m)) F:=by
 rw[qm h2]
 exact pick h (Int.emod_nonneg _ (by omega)) (by rw[←h1];exact Int.emod_lt_of_pos _ h2) q
section
variable{K:PySem.W.Frag}
theorem Zn9{Γ G}:∀ds M Q Z,Yj ds M Q Z→tss ⟨K,Γ,G⟩ noX b_Lnext {nx:=fun _ M=>Q .non M,rt:=Q} (start0 Oi ds) M:=by
 rintro ds M Q Z ⟨r,rfl,⟨l,hl⟩,q⟩
 have hlt:=Nk hl
 simp only[b_Lnext,Oi]
 walk_at "ev"
 refine⟨Z2 (by decide),?_⟩
 try walk_at "ev"
 refine Cz (l:=l) (Zn (Z3 hl)) (Yp _ _ []) ?_
 cases hT:l.isEmpty with
 | true=>
  rw[if_pos rfl]
  exact q 0 _ ((Ke.refl ⟨l,hl⟩).app _)
 | false=>
  rw[if_neg (by decide)]
  have hne:l≠[]:=by rintro rfl;cases hT
  obtain⟨l',x,rfl⟩:∃l' x,l=l'++[x]:=⟨l.dropLast,l.getLast hne,(List.dropLast_concat_getLast hne).symm⟩
  rw[Tb] at hl
  simp only[N3]
  walk_at "ev"
  refine⟨Xb (Zn (Z3 hl)),_,.int (x:Nat),Ze hl,by simp,?_⟩
  rw[List.dropLast_concat]
  exact q x _ (Ke.take hlt _)
theorem Zk3{Γ G}(g12:Γ[14]?=some Yj):∀ds M Q Z,Yb ds M Q Z→tss ⟨K,Γ,G⟩ noX b_Lgreat {nx:=fun _ M=>Q .non M,rt:=Q} (start0 Sw ds) M:=by
 rintro ds M Q Z ⟨r,rfl,hd,q⟩
 simp only[b_Lgreat,Sw]
 walk_at "ev"
 try simp only[g12]
 refine⟨r,rfl,hd,fun x M1 k1=>?_⟩
 walk_at "ev"
 refine⟨mulR (by decide) (by decide),?_⟩
 try walk_at "ev"
 try simp only[g12]
 refine⟨r,rfl,k1.dr,fun y M2 k2=>?_⟩
 walk_at "ev"
 refine⟨⟨by decide,by decide,by decide⟩,mulL (by decide) (by decide),by decide,⟨by decide,by decide,by decide⟩,q _ _ ?_ (k1.trans k2)⟩
 have e:(10:Int) ^ Int.toNat 18=1000000000000000000:=rfl
 rw[e,qm (by decide)]
 have h1:=Int.emod_nonneg ((x:Int) * 2147483629+(y:Int)) (show(2 * 1000000000000000000+1:Int)≠0 by decide)
 have h2:=Int.emod_lt_of_pos ((x:Int) * 2147483629+(y:Int)) (show(0:Int)<2 * 1000000000000000000+1 by decide)
 generalize ((x:Int) * 2147483629+(y:Int)) % (2 * 1000000000000000000+1)=v at h1 h2
 unfold Bits
 omega
end
theorem Z38{α β:Type}(f:α→β)(xs:List α)(lo hi:Option Int):U.cutD (xs.map f) lo hi=(U.cutD xs lo hi).map f:=by
 unfold U.cutD
 rw[List.length_map,List.map_take,List.map_drop]
theorem Zv8{α:Type}{xs:List α}(h:0<xs.length){m:Int}(hm:1≤m):0< (U.cutD xs none (some m)).length:=by
 unfold U.cutD
 have e1:HT.sIx xs.length 0 none=0:=rfl
 have e2:HT.sIx xs.length xs.length (some m)=min m.toNat xs.length:=by
  show(if m<0 then(m+(xs.length:Int)).toNat else min m.toNat xs.length)=_
  rw[if_neg (by omega)]
  try walk_at "ev"
 rw[e1,e2,List.length_take,List.drop_zero]
 omega
theorem Kp.set{M M':Z1}{r:Nat}(h:Kp M M')(hr:M.length≤r)(c:Cell):Kp M (M'.set r c):=by
 obtain⟨L,rfl⟩:=h
 exact⟨L.set (r - M.length) c,by rw[List.set_append_right _ _ hr]⟩
def Y3:DSp:=fun ds M Q _=>∃(a:Nat) (ns:List Int),ds=[.ref a]∧Zg M a=some (ns.map .int)∧ns.length≤63∧∀M' r,Dr M' r→Kp M M'→M.length≤r→Q (.ref r) M'
section
variable{K:PySem.W.Frag}
theorem Zx5{α:Type}(xs:List α)(lo hi:Option Int):(U.cutD xs lo hi).length≤xs.length:=by
 unfold U.cutD
 rw[List.length_take,List.length_drop]
 omega
theorem Zh4{Γ G}:∀ds M Q Z,Y3 ds M Q Z→tss ⟨K,Γ,G⟩ noX b_Ldraws {nx:=fun _ M=>Q .non M,rt:=Q} (start0 R9 ds) M:=by
 rintro ds M Q Z ⟨a,ns,rfl,ha,hl,q⟩
 simp only[b_Ldraws,R9]
 walk_at "ev"
 refine⟨_,ha,_,Yp M _ [],Z2 (by decide),_,_,Ze (Y1 _ _ []),Y1 _ _ [],?_,Yq (Zn (Zn (Zn (Zn ha)))) ?_⟩
 ·have:=Zx5 (ns.map D.int) none (some 63)
  rw[List.length_map] at this
  exact Z2 (by simp;omega)
 walk_at "ev"
 refine⟨_,Yp _ _ [],?_⟩
 try walk_at "ev"
 obtain⟨mx,hmx,emx⟩:∃m:Int,1≤m∧(if (if (63:Int)< ((ns.map D.int).length:Int) then(63:Int) else((ns.map D.int).length:Int)) >1 then(if (63:Int)< ((ns.map D.int).length:Int) then(63:Int) else((ns.map D.int).length:Int)) else 1)=m:=⟨_,by split<;>omega,rfl⟩
 rw[emx]
 obtain⟨ys,hys,hy0⟩:∃ys:List Int,U.cutD (U.cutD (ns.map D.int) none (some 63)++[.int 0]) none (some mx)=ys.map .int∧0<ys.length:=by
  refine⟨U.cutD (U.cutD ns none (some 63)++[0]) none (some mx),?_,Zv8 (by simp) hmx⟩
  try walk_at "ev"
  rw[←Z38,List.map_append,←Z38]
  rfl
 rw[hys]
 generalize hMd:M++[Cell.lst (U.cutD (ns.map D.int) none (some 63))]++[Cell.lst (U.cutD (ns.map D.int) none (some 63))]++[Cell.lst [D.int 0]]++[Cell.lst (U.cutD (ns.map D.int) none (some 63)++[D.int 0])]=Md
 have kd:Kp M Md:=by rw[←hMd];exact(((Kp.new _ _).app _).app _).app _
 clear hMd
 have k5:=kd.app [Cell.lst (ys.map D.int)]
 have w5:=Y1 Md (ys.map D.int) []
 have he:M.length≤Md.length:=by obtain⟨N,rfl⟩:=kd;rw[List.length_append];omega
 generalize Md++[Cell.lst (ys.map D.int)]=M5 at k5 w5
 generalize Md.length=e at w5 he
 obtain⟨y0,hy⟩:∃y,ys[0]?=some y:=⟨_,List.getElem?_eq_getElem hy0⟩
 have ihy:(ys.map D.int)[0]?=some (.int y0):=by rw[List.getElem?_map,hy];rfl
 try walk_at "ev"
 refine ix_l (k:=0) (Z3 w5) ihy ?_
 try walk_at "ev"
 generalize decide (qmod y0 2=1)=b
 refine ix_l (k:=0) (Z3 w5) ihy ?_
 try walk_at "ev"
 refine⟨Sy (by decide) (by decide),.inl ⟨_,0,0,rfl,w5,by unfold ixN;rw[if_pos (by omega),if_pos (by rw[List.length_map];omega)];rfl,?_⟩⟩
 try walk_at "ev"
 have w6:Zi (M5.set e (.lst ((ys.map D.int).set 0 (.int (qdiv y0 2))))) e=some ((ys.set 0 (qdiv y0 2)).map .int):=by rw[Cy w5,List.map_set]
 have k6:=k5.set he (.lst ((ys.map D.int).set 0 (.int (qdiv y0 2))))
 have l6:0< (ys.set 0 (qdiv y0 2)).length:=by rw[List.length_set];exact hy0
 generalize ys.set 0 (qdiv y0 2)=zs at w6 l6
 generalize M5.set e (.lst ((ys.map D.int).set 0 (.int (qdiv y0 2))))=M6 at w6 k6
 have le6:=Nk w6
 have lm6:M.length≤M6.length:=by obtain⟨N,rfl⟩:=k6;rw[List.length_append];omega
 try walk_at "ev"
 refine⟨_,Z3 w6,Z2 (by decide),by decide,by decide,?_⟩
 try walk_at "ev"
 have e900:(900:Int).toNat=900:=rfl
 rw[e900]
 have wf:=Ze (N:=[Cell.lst []]) (Y1 M6 (zs.map D.int) [])
 have wg:=Y1 (M6++[Cell.lst (zs.map D.int)]) [] []
 have we:=Ze (N:=[Cell.lst []]) (Ze (N:=[Cell.lst (zs.map D.int)]) w6)
 have k8:=(k6.app [Cell.lst (zs.map D.int)]).app [Cell.lst []]
 generalize M6++[Cell.lst (zs.map D.int)]++[Cell.lst []]=M8 at wf wg we k8
 have hgl:(M6++[Cell.lst (zs.map D.int)]:Z1).length=M6.length+1:=by simp
 rw[hgl] at wg ⊢
 generalize hf:M6.length=f at wf wg le6 lm6
 clear hgl hf
 have nef:e≠f:=by omega
 have neg:e≠f+1:=by omega
 have nfg:f≠f+1:=by omega
 refine Wd (fun i σ M'=>∃(us:List Int) (fo:List Nat) (d5 d6 d7:Option D),σ=[some (.ref a),some (.ref e),some (.bl b),some (.ref f),some (.ref (f+1)),d5,d6,d7]∧Kp M M'∧Zi M' e=some (zs.map .int)∧Zi M' f=some (us.map .int)∧us.length=zs.length∧Zi M' (f+1)=some (natD fo)∧fo.length=i) ⟨zs,[],none,none,none,rfl,k8,we,wf,rfl,wg,rfl⟩ ?_ ?_
 ·rintro i σ M' C hi ⟨us,fo,d5,d6,d7,rfl,kp,we,wf,hul,wg,hfo⟩ hC
  have fin:∀(M2:Z1) (us:List Int) (nn:Nat) (d5 d6:Option D) bk,Kp M M2→Zi M2 e=some (zs.map .int)→Zi M2 f=some (us.map .int)→us.length=zs.length→Zi M2 (f+1)=some (natD fo)→tss ⟨K,Γ,G⟩ noX Vi {nx:=C,rt:=Q,bk:=bk,ct:=C} [some (.ref a),some (.ref e),some (.bl b),some (.ref f),some (.ref (f+1)),d5,d6,some (.int nn)] M2:=by
   intro M2 us nn d5 d6 bk kp we wf hul wg
   simp only[Vi]
   walk_at "ev"
   refine⟨Xb (Z3 wg),_,wg,by rw[Xo];exact Zl (by omega),?_⟩
   try walk_at "ev"
   rw[←Tb]
   refine hC _ _ ⟨us,fo++[nn],_,_,_,rfl,kp.set (by omega) _,by rw[Ca (Ne.symm neg)];exact we,by rw[Ca (Ne.symm nfg)];exact wf,hul,Cy wg,by rw[List.length_append,hfo];rfl⟩
  simp only[Pw,Int.zero_add]
  walk_at "ev"
  refine Yq (Z3 we) ?_
  try walk_at "ev"
  rw[List.length_map]
  walk_at "ev"
  refine⟨by omega,?_⟩
  try walk_at "ev"
  rw[qm (show(0:Int)<zs.length by omega)]
  have m1:=Int.emod_nonneg (i:Int) (show(zs.length:Int)≠0 by omega)
  have m2:=Int.emod_lt_of_pos (i:Int) (show(0:Int)<zs.length by omega)
  obtain⟨p,hp,ep⟩:∃p:Nat,p<zs.length∧(i:Int) % zs.length=p:=⟨((i:Int) % zs.length).toNat,by omega,by omega⟩
  rw[ep]
  obtain⟨u,hu⟩:∃u,us[p]?=some u:=⟨_,List.getElem?_eq_getElem (by omega)⟩
  obtain⟨v,hv⟩:∃v,zs[p]?=some v:=⟨_,List.getElem?_eq_getElem hp⟩
  have ihu:(us.map D.int)[p]?=some (.int u):=by rw[List.getElem?_map,hu];rfl
  have ihv:(zs.map D.int)[p]?=some (.int v):=by rw[List.getElem?_map,hv];rfl
  refine ix_l (Z3 wf) ihu ?_
  try walk_at "ev"
  rw[qm (show(0:Int)<2147483629 by decide)]
  try walk_at "ev"
  have nat:∀(c j:Int),0<j→∃n:Nat,c % j=(n:Int)∧(n:Int)<j:=fun c j hj=>⟨(c % j).toNat,by have:=Int.emod_nonneg c (show j≠0 by omega);omega,by have:=Int.emod_nonneg c (show j≠0 by omega);have:=Int.emod_lt_of_pos c hj;omega⟩
  obtain⟨n0,e0,_⟩:=nat u 2147483629 (by decide)
  rw[e0]
  have els:∀(M2:Z1) (bk:DEnv→Z1→Prop),Kp M M2→Zi M2 e=some (zs.map .int)→Zi M2 f=some (us.map .int)→Zi M2 (f+1)=some (natD fo)→
    ixD M2 (D.ref e) (D.int p) fun d=>U.opD Op.mod d (D.int 2147483629) M2 fun x M1=>U.opD Op.mul x (D.int 48271) M1 fun x M1=>IntMulOk 7919 i∧IntMulOk (7919 * i) i∧
     U.opD Op.add x (D.int (7919 * i * i)) M1 fun x M1=>U.opD Op.add x (D.int 104729) M1 fun x M1=>U.opD Op.mod x (D.int 2147483647) M1 fun d M1=>U.opD Op.mul d d M1 fun x M1=>U.opD Op.mod x (D.int 2147483629) M1 fun d M1=>
     U.opD Op.mul d (D.int 69621) M1 fun x M1=>IntMulOk 3571 i∧U.opD Op.add x (D.int (3571 * i)) M1 fun x M1=>U.opD Op.mod x (D.int 2147483563) M1 fun x M1=>U.opD Op.mul x d M1 fun x M1=>U.opD Op.mod x (D.int 2147483629) M1 fun d M1=>
     tss ⟨K,Γ,G⟩ noX Vi {nx:=C,rt:=Q,bk:=bk,ct:=C} [some (.ref a),some (.ref e),some (.bl b),some (.ref f),some (.ref (f+1)),some (.int i),some (.int p),some d] M1:=by
   intro M2 bk kp we wf wg
   refine ix_l (Z3 we) ihv ?_
   walk_at "ev"
   rw[qm (show(0:Int)<2147483647 by decide)]
   refine⟨mulR (by decide) (by decide),mulL (by decide) (by decide),mulR (by omega) (by omega),?_⟩
   try walk_at "ev"
   obtain⟨n1,e1,b1⟩:=nat (qmod v 2147483629 * 48271+7919 * (i:Int) * (i:Int)+104729) 2147483647 (by decide)
   rw[e1]
   refine⟨mulR (by omega) (by omega),?_⟩
   try walk_at "ev"
   rw[qm (show(0:Int)<2147483629 by decide)]
   obtain⟨n2,e2,b2⟩:=nat ((n1:Int) * (n1:Int)) 2147483629 (by decide)
   rw[e2]
   refine⟨mulR (by decide) (by decide),mulL (by decide) (by decide),mulR (by omega) (by omega),?_⟩
   try walk_at "ev"
   rw[qm (show(0:Int)<2147483629 by decide)]
   obtain⟨n3,e3,b3⟩:=nat (qmod ((n2:Int) * 69621+3571 * (i:Int)) 2147483563 * (n2:Int)) 2147483629 (by decide)
   rw[e3]
   exact fin _ us n3 _ _ _ kp we wf hul wg
  cases b with
  | false=>
   try walk_at "ev"
   exact els M' _ kp we wf wg
  | true=>
   try walk_at "ev"
   refine ix_l (Z3 wf) ihu ?_
   try walk_at "ev"
   refine⟨Z2 (by decide),.inl ⟨_,Yp M' _ [],rfl,rfl,?_⟩⟩
   try walk_at "ev"
   generalize inD (D.int u) [D.int 0,D.int (-1)]=cc
   show(if cc=false then _ else _)
   split
   ·refine ix_l (Zn (Z3 wf)) ihu ?_
    try walk_at "ev"
    refine⟨Sy (by decide) (by decide),.inl ⟨_,p,p,rfl,Ze wf,by unfold ixN;rw[if_pos (by omega),if_pos (by rw[List.length_map];omega)];rfl,?_⟩⟩
    try walk_at "ev"
    refine fin _ (us.set p (qdiv u 2147483629)) n0 _ _ _ ((kp.app _).set (by omega) _) (by rw[Ca (Ne.symm nef)];exact Ze we) (by rw[Cy (Ze wf),List.map_set]) (by rw[List.length_set];exact hul) (by rw[Ca nfg];exact Ze wg)
   ·exact els _ _ (kp.app _) (Ze we) (Ze wf) (Ze wg)
 ·rintro σ M' ⟨us,fo,d5,d6,d7,rfl,kp,we,wf,hul,wg,hfo⟩
  simp only[O5]
  walk_at "ev"
  refine⟨natD fo,Z3 wg,?_⟩
  try walk_at "ev"
  refine q _ _ ⟨fo.reverse,?_⟩ (kp.app _) ?_
  ·rw[show natD fo.reverse=(natD fo).reverse by unfold natD;rw[List.map_reverse]]
   exact Y1 _ _ []
  ·obtain⟨N,rfl⟩:=kp;rw[List.length_append];omega
end
def Nms(M:Z1)(g:Nat):Prop:=∃l:List Str,l.length=4∧Zg M g=some (l.map D.str)
theorem Nms.ke{r g:Nat}{M M':Z1}(h:Nms M g)(k:Ke r M M')(hg:g≠r):Nms M' g:=by obtain⟨l,a,c⟩:=h;exact⟨l,a,k.L hg c⟩
theorem Nms.pick{M:Z1}{g:Nat}{i:Int}{F:D→Prop}(h:Nms M g)(q:∀x:Str,F (.str x)):ixD M (.ref g) (.int (qmod i 4)) F:=by
 obtain⟨l,a,c⟩:=h
 refine Ra c (by rw[List.length_map,a];rfl) (by decide) fun d hd=>?_
 try walk_at "ev"
 obtain⟨x,_,rfl⟩:=List.mem_map.mp hd
 exact q x
def Zr:DSp:=fun ds M Q _=>∃(r g:Nat),ds=[.ref r,.ref g]∧Dr M r∧g≠r∧Nms M g∧∀(o:Opd) M',OB o→Ke r M M'→Q o.d M'
def Wr:DSp:=fun ds M Q _=>∃(r k nu na:Nat) (nums:List Nat),ds=[.ref r,.int k,.ref nu,.ref na]∧Dr M r∧nu≠r∧na≠r∧Zg M nu=some (natD nums)∧k<nums.length∧nums.length≤1000∧Nms M na∧
 ∀(w:Rw) M',(∀x,nums[k]?=some x→w.num=x)→(∀g,w.goal=some g→g∈nums)→RB w→Ke r M M'→Q w.d M'
def Xc:DSp:=fun ds M Q _=>∃(r na:Nat),ds=[.ref r,.ref na]∧Dr M r∧na≠r∧Nms M na∧
 ∀(rows:List Rw) M' z,RwOk rows→(∀r∈rows,0<r.num)→rows.length≤61→(∀w∈rows,RB w)→Ke r M M'→Zi M' z=some (rows.map Rw.d)→M.length≤z→Q (.ref z) M'
theorem Zu2{α:Type}{xs:List α}{c:Int}{n:Nat}(hn:xs.length=n)(h:0<n):∃(k:Nat) (d:α),c % (n:Int)=(k:Int)∧xs[k]?=some d:=by
 have h1:=Int.emod_nonneg c (show(n:Int)≠0 by omega)
 have h2:=Int.emod_lt_of_pos c (show(0:Int)<n by omega)
 exact⟨(c % (n:Int)).toNat,_,by omega,List.getElem?_eq_getElem (by omega)⟩
theorem Gm{l:List Nat}(h:l.Pairwise (· < ·)):l.Nodup:=h.imp fun h=>Nat.ne_of_lt h
theorem Ro{M:Z1}{a:Nat}{l:List Nat}{i m:Int}{F:D→Prop}(h:Zg M a=some (natD l))(h0:0<l.length)(hm:m=l.length)(q:∀x∈l,F (.int (x:Nat))):ixD M (.ref a) (.int (qmod i m)) F:=by
 refine Ra h (by rw[Xo];exact hm) (by omega) fun d hd=>?_
 try walk_at "ev"
 unfold natD at hd
 obtain⟨x,hx,rfl⟩:=List.mem_map.mp hd
 exact q x hx
section
variable{K:PySem.W.Frag}
theorem C4{Γ G}(g12:Γ[14]?=some Yj)(g14:Γ[16]?=some Yb):∀ds M Q Z,Zr ds M Q Z→tss ⟨K,Γ,G⟩ noX b_Loperand {nx:=fun _ M=>Q .non M,rt:=Q} (start0 V9 ds) M:=by
 rintro ds M Q Z ⟨r,g,rfl,hd,hg,nms,q⟩
 simp only[b_Loperand,V9]
 try walk_at "ev"
 try simp only[g12,g14]
 refine⟨r,rfl,hd,fun x M1 k1=>?_⟩
 try walk_at "ev"
 split
 ·refine⟨r,rfl,k1.dr,fun v M2 hv k2=>?_⟩
  try walk_at "ev"
  exact q (.no v) _ hv (k1.trans k2)
 ·simp only[Sc]
  try walk_at "ev"
  try simp only[g12,g14]
  split
  ·refine⟨r,rfl,k1.dr,fun v M2 k2=>?_⟩
   try walk_at "ev"
   refine q (.no _) _ ?_ (k1.trans k2)
   show Bits 64 (qmod (v:Int) 9 - 3)
   rw[qm (by decide)]
   have h1:=Int.emod_nonneg (v:Int) (show(9:Int)≠0 by decide)
   have h2:=Int.emod_lt_of_pos (v:Int) (show(0:Int)<9 by decide)
   generalize (v:Int) % 9=u at h1 h2
   unfold Bits
   omega
  ·simp only[Sf]
   try walk_at "ev"
   try simp only[g12,g14]
   refine⟨r,rfl,k1.dr,fun v M2 k2=>?_⟩
   try walk_at "ev"
   refine(nms.ke (k1.trans k2) hg).pick fun y=>?_
   try walk_at "ev"
   exact q (.nm y) _ trivial (k1.trans k2)
theorem Zx4{Γ G}(g12:Γ[14]?=some Yj)(g15:Γ[17]?=some Zr):∀ds M Q Z,Wr ds M Q Z→tss ⟨K,Γ,G⟩ noX b_Lrow {nx:=fun _ M=>Q .non M,rt:=Q} (start0 E6 ds) M:=by
 rintro ds M Q Z ⟨r,k,nu,na,nums,rfl,hd,hnr,har,hnu,hk,h1000,nms,q⟩
 obtain⟨y,hy⟩:∃x,nums[k]?=some x:=⟨_,List.getElem?_eq_getElem hk⟩
 have hye:∀z,nums[k]?=some z→y=z:=fun z hz=>by rw[hy] at hz;cases hz;rfl
 simp only[b_Lrow,E6]
 try walk_at "ev"
 try simp only[g12]
 refine⟨r,rfl,hd,fun x M1 k1=>?_⟩
 try walk_at "ev"
 have nu1:=k1.L hnr hnu
 try walk_at "ev"
 split
 ·exact ix_l nu1 (Wm hy) ⟨Z2 (by decide),q (.fin y) _ hye (fun g h=>by cases h) ⟨trivial,trivial⟩ k1⟩
 ·simp only[Gy]
  try walk_at "ev"
  try simp only[g12]
  split
  ·refine ix_l nu1 (Wm hy) ⟨r,rfl,k1.dr,fun x2 M2 k2=>?_⟩
   try walk_at "ev"
   refine Yq (k2.L hnr nu1) ?_
   try walk_at "ev"
   rw[Xo]
   try walk_at "ev"
   refine⟨by omega,Ro (k2.L hnr nu1) (by omega) rfl fun t ht=>⟨Z2 (by decide),?_⟩⟩
   try walk_at "ev"
   exact q (.jump y t) _ hye (fun g h=>by cases h;exact ht) ⟨trivial,trivial⟩ (k1.trans k2)
  ·simp only[E4]
   try walk_at "ev"
   try simp only[g12,g15]
   refine⟨r,na,rfl,k1.dr,har,nms.ke k1 har,fun o1 M2 ok1 k2=>?_⟩
   try walk_at "ev"
   have K2:=k1.trans k2
   try walk_at "ev"
   try simp only[g12,g15]
   refine⟨r,na,rfl,K2.dr,har,nms.ke K2 har,fun o2 M3 ok2 k3=>?_⟩
   try walk_at "ev"
   have K3:=K2.trans k3
   have hne:M3.length≠r:=by have:=K3.dr.lt;omega
   try walk_at "ev"
   try simp only[g12,g15]
   split
   ·refine⟨Z2 (by decide),r,rfl,K3.dr.app _,fun x4 M4 k4=>?_⟩
    try walk_at "ev"
    have K4:=(K3.app _).trans k4
    try walk_at "ev"
    refine Ra (k4.L hne (Yp M3 _ [])) rfl (by decide) fun d4 h4=>?_
    try walk_at "ev"
    obtain⟨sg,hsx,rfl⟩:=List.mem_map (f:=D.str) (l:=["+","-","/","rest","&","^"]) |>.mp h4
    try walk_at "ev"
    try simp only[g12,g15]
    refine ix_l (K4.L hnr hnu) (Wm hy) ⟨r,rfl,K4.dr,fun x5 M5 k5=>?_⟩
    try walk_at "ev"
    refine(nms.ke (K4.trans k5) har).pick fun x6=>⟨Z2 (by decide),?_⟩
    try walk_at "ev"
    exact q (.sum y x6 o1 sg o2) _ hye (fun g h=>by cases h) ⟨⟨ok1,ok2⟩,hsx⟩ (K4.trans k5)
   ·simp only[Ez]
    try walk_at "ev"
    try simp only[g12,g15]
    refine⟨Z2 (by decide),r,rfl,K3.dr.app _,fun x4 M4 k4=>?_⟩
    try walk_at "ev"
    have K4:=(K3.app _).trans k4
    try walk_at "ev"
    refine Ra (k4.L hne (Yp M3 _ [])) rfl (by decide) fun d4 h4=>?_
    try walk_at "ev"
    obtain⟨sg,hsg,rfl⟩:=List.mem_map (f:=D.str) (l:=["<","="]) |>.mp h4
    have hsg:sg="<"∨sg="=":=by simpa using hsg
    try walk_at "ev"
    try simp only[g12,g15]
    refine ix_l (K4.L hnr hnu) (Wm hy) ⟨r,rfl,K4.dr,fun x5 M5 k5=>?_⟩
    try walk_at "ev"
    have K5:=K4.trans k5
    try walk_at "ev"
    refine Yq (K5.L hnr hnu) ?_
    try walk_at "ev"
    rw[Xo]
    try walk_at "ev"
    refine⟨by omega,Ro (K5.L hnr hnu) (by omega) rfl fun t ht=>⟨Z2 (by decide),?_⟩⟩
    try walk_at "ev"
    exact q (.test y o1 sg o2 t) _ hye (fun g h=>by cases h;exact ht) ⟨⟨ok1,ok2,hsg⟩,trivial⟩ K5
end
section
variable{K:PySem.W.Frag}
theorem Zv0{Γ G}(g12:Γ[14]?=some Yj)(g16:Γ[18]?=some Wr):∀ds M Q Z,Xc ds M Q Z→tss ⟨K,Γ,G⟩ noX b_Lrows {nx:=fun _ M=>Q .non M,rt:=Q} (start0 O7 ds) M:=by
 rintro ds M Q Z ⟨r,na,rfl,hd,har,nms,q⟩
 simp only[b_Lrows,O7]
 try walk_at "ev"
 try simp only[g12]
 refine⟨r,rfl,hd,fun x M1 k1=>?_⟩
 try walk_at "ev"
 rw[qm (show(0:Int)<61 by decide)]
 have r1:=Int.emod_nonneg (x:Int) (show(61:Int)≠0 by decide)
 have r2:=Int.emod_lt_of_pos (x:Int) (show(0:Int)<61 by decide)
 obtain⟨many,hm1,e⟩:∃many:Nat,many≤60∧(x:Int) % 61=many:=⟨((x:Int) % 61).toNat,by omega,by omega⟩
 rw[e]
 have hne1:M1.length≠r:=by have:=k1.dr.lt;omega
 try simp only[g12]
 refine⟨Z2 (by decide),r,rfl,k1.dr.app _,fun x2 M2 k2=>?_⟩
 try walk_at "ev"
 have K2:=(k1.app _).trans k2
 try walk_at "ev"
 obtain⟨j,m,ej,hm⟩:=Zu2 (xs:=([1,10,97]:List Nat)) (c:=(x2:Int)) (n:=3) rfl (by decide)
 have hm0:0<m:=by
  have:=List.mem_of_getElem? hm
  simp at this
  omega
 rw[qm (show(0:Int)<3 by decide),show(x2:Int) % 3=(j:Int) from ej]
 refine ix_l (xs:=natD [1,10,97]) (k2.L hne1 (Yp M1 _ [])) (Wm hm) ?_
 try walk_at "ev"
 try simp only[g12]
 refine⟨r,rfl,K2.dr,fun x3 M3 k3=>?_⟩
 try walk_at "ev"
 have K3:=K2.trans k3
 have hne3:M3.length≠r:=by have:=K3.dr.lt;omega
 try walk_at "ev"
 rw[qm (show(0:Int)<300 by decide)]
 obtain⟨b0,eb⟩:∃b0:Nat,1+(x3:Int) % 300=b0:=⟨(1+(x3:Int) % 300).toNat,by have:=Int.emod_nonneg (x3:Int) (show(300:Int)≠0 by decide);omega⟩
 rw[eb]
 refine⟨Z2 (by decide),by omega,by omega,?_⟩
 try walk_at "ev"
 rw[Int.toNat_natCast]
 refine Wd (fun i σ M'=>∃(nums:List Nat) (d6 d7:Option D),σ=[some (.ref r),some (.ref na),some (.int many),some (.int m),some (.ref M3.length),d6,d7]∧Ke r M3 M'∧Zi M' M3.length=some (natD nums)∧nums.length=i+1∧nums.Pairwise (· < ·)∧∀x∈nums,0<x)
  ⟨[b0],none,none,rfl,(Ke.refl K3.dr).app _,Y1 _ _ [],rfl,List.pairwise_singleton _ _,fun x hx=>by rw[List.mem_singleton] at hx;have:=Int.emod_nonneg (x3:Int) (show(300:Int)≠0 by decide);omega⟩ ?_ ?_
 ·rintro i σ M' C hi ⟨nums,d6,d7,rfl,ke,hw,hlen,hpw,hps⟩ hC
  obtain⟨y,hy⟩:∃y,nums[i]?=some y:=⟨_,List.getElem?_eq_getElem (by omega)⟩
  simp only[Jl,Int.zero_add]
  try walk_at "ev"
  try simp only[g12]
  refine⟨Xb (Z3 hw),ix_l (Z3 hw) (Wm hy) ⟨r,rfl,ke.dr,fun x4 M4 k4=>?_⟩⟩
  try walk_at "ev"
  have hw4:=k4.W hne3 hw
  try walk_at "ev"
  refine⟨by omega,_,hw4,by rw[Xo];exact Zl (by omega),?_⟩
  try walk_at "ev"
  rw[qm (show(0:Int)<m by omega)]
  have nn:=Int.emod_nonneg (x4:Int) (show(m:Int)≠0 by omega)
  generalize (x4:Int) % (m:Int)=v at nn
  rw[show((y:Int)+1+v)=((y+1+v.toNat:Nat):Int) by omega,←Tb]
  refine hC _ _ ⟨nums++[y+1+v.toNat],_,_,rfl,(ke.trans k4).set (Nat.le_refl _) hne3 _,Cy hw4,by rw[List.length_append,hlen];rfl,List.pairwise_append.mpr ⟨hpw,List.pairwise_singleton _ _,fun x hx z hz=>?_⟩,fun x hx=>(List.mem_append.mp hx).elim (hps x) fun h=>by rw[List.mem_singleton] at h;omega⟩
  try walk_at "ev"
  rw[List.mem_singleton] at hz
  subst hz
  obtain⟨p,hp,rfl⟩:=List.mem_iff_getElem.mp hx
  have hyi:nums[i]'(by omega)=y:=by rw[List.getElem?_eq_getElem (by omega)] at hy;exact Option.some.inj hy
  by_cases e:p=i
  ·subst e;rw[hyi];omega
  ·have:=List.pairwise_iff_getElem.mp hpw p i hp (by omega) (by omega)
   omega
 ·rintro σ M4 ⟨nums,d6,d7,rfl,ke,hw,hlen,hpw,hps⟩
  have K4:=K3.trans ke
  have hne4:M4.length≠r:=by have:=ke.dr.lt;omega
  have hlt4:=Nk hw
  simp only[G1]
  try walk_at "ev"
  refine⟨by omega,by omega,?_⟩
  try walk_at "ev"
  rw[Int.toNat_natCast]
  simp only[capD,List.map_cons,List.map_nil,Option.bind_none,Option.bind_some,List.getElem?_cons_zero,List.getElem?_cons_succ,Option.join_some]
  refine Fk (fun i σ M'=>∃(d1:Option D) (rows:List Rw),σ=[d1,some (.ref r),some (.ref M3.length),some (.ref na)]∧Ke r M4 M'∧Zi M' M4.length=some (rows.map Rw.d)∧rows.map Rw.num=nums.take i∧(∀w∈rows,∀g,w.goal=some g→g∈nums)∧∀w∈rows,RB w) ⟨none,[],rfl,(Ke.refl ke.dr).app _,Y1 _ _ [],rfl,by simp,by simp⟩ (fun _ _ _ _ _=>trivial) ?_ ?_
  ·rintro i dx σ M' C hx ⟨d1,rows,rfl,k5,hw5,hn,hg,hok⟩ hC
   have hi:i<many:=by
    have:=(List.getElem?_eq_some_iff.mp hx).1
    rwa[W2] at this
   rw[N9 hi] at hx
   cases hx
   simp only[Int.zero_add]
   try walk_at "ev"
   try simp only[g16]
   refine⟨r,i,M3.length,na,nums,rfl,k5.dr,hne3,har,k5.L hne3 (Z3 hw),by omega,by omega,nms.ke (K4.trans k5) har,fun w M6 e1 e2 e3 k6=>?_⟩
   try walk_at "ev"
   have hlr:rows.length=i:=by have:=congrArg List.length hn;rw[List.length_map,List.length_take] at this;omega
   obtain⟨y,hy⟩:∃y,nums[i]?=some y:=⟨_,List.getElem?_eq_getElem (by omega)⟩
   have hw6:=k6.W hne4 hw5
   refine⟨_,hw6,by rw[List.length_map];exact Zl (by omega),?_⟩
   try walk_at "ev"
   refine hC _ _ ⟨_,rows++[w],rfl,(k5.trans k6).set (Nat.le_refl _) hne4 _,by rw[Cy hw6,List.map_append];rfl,by rw[List.map_append,hn,V7 hy];show _++[w.num]=_;rw[e1 y hy],fun w' hw'=>?_,fun w' hw'=>?_⟩
   ·rcases List.mem_append.mp hw' with h | h
    ·exact hg w' h
    ·rw[List.mem_singleton] at h;subst h;exact e2
   ·rcases List.mem_append.mp hw' with h | h
    ·exact hok w' h
    ·rw[List.mem_singleton] at h;subst h;exact e3
  ·rintro σ M5 ⟨d1,rows,rfl,k5,hw5,hn,hg,hok⟩
   rw[W2] at hn
   have K5:=K4.trans k5
   have hne:nums≠[]:=by rintro rfl;simp at hlen
   obtain⟨nums',z,rfl⟩:∃nums' z,nums=nums'++[z]:=⟨nums.dropLast,nums.getLast hne,(List.dropLast_concat_getLast hne).symm⟩
   rw[List.length_append,List.length_singleton] at hlen
   have hl':nums'.length=many:=by omega
   rw[List.take_append_of_le_length (by omega),←hl',List.take_length] at hn
   have hlr:rows.length=many:=by have:=congrArg List.length hn;rw[List.length_map] at this;omega
   have lastN:atI (natD (nums'++[z])) (-1)=some (.int (z:Nat)):=by rw[Tb];exact Zi1 _ _
   have nu5:=k5.L hne3 (Z3 hw)
   try walk_at "ev"
   try simp only[g12]
   refine⟨r,rfl,k5.dr,fun x6 M6 k6=>?_⟩
   try walk_at "ev"
   have K6:=K5.trans k6
   have hw6:=k6.W hne4 hw5
   have nu6:=k6.L hne3 nu5
   have fin:∀(w:Rw) M7,w.num=z→w.goes=false→(∀g,w.goal=some g→g∈nums'++[z])→RB w→Ke r M5 M7→∀σ d7,σ=[some (.ref r),some (.ref na),some (.int many),some (.int m),some (.ref M3.length),d7,some (.ref M4.length)]→∃xs,Zi M7 M4.length=some xs∧xs.length<sizeLine∧tss ⟨K,Γ,G⟩ noX Rx {nx:=fun _ M=>Q .non M,rt:=Q} σ (M7.set M4.length (.lst (xs++[w.d]))):=by
    rintro w M7 e1 e2 e3 e4 k7 σ d7 rfl
    have hw7:=k7.W hne4 hw5
    refine⟨_,hw7,by rw[List.length_map];exact Zl (by omega),?_⟩
    try walk_at "ev"
    simp only[Rx]
    try walk_at "ev"
    have en:(rows++[w]).map Rw.num=nums'++[z]:=by rw[List.map_append,hn];show _++[w.num]=_;rw[e1]
    have l4:=K4.len
    refine q (rows++[w]) _ _ ⟨by simp,by rw[List.length_append,List.length_singleton];omega,by rw[en];exact Gm hpw,fun r' hr' g hg'=>?_,fun p r' hp hgo=>?_⟩ (fun r' hr'=>hps _ (by rw[←en];exact List.mem_map.mpr ⟨r',hr',rfl⟩)) (by rw[List.length_append,List.length_singleton];omega) (fun r' hr'=>?_) (K4.trans ((k5.trans k7).set (Nat.le_refl _) hne4 _)) (by rw[Cy hw7,List.map_append];rfl) l4
    ·rw[en]
     rcases List.mem_append.mp hr' with h | h
     ·exact hg r' h g hg'
     ·rw[List.mem_singleton] at h;subst h;exact e3 g hg'
    ·rw[List.length_append,List.length_singleton]
     by_cases hpl:p<rows.length
     ·omega
     ·rw[List.getElem?_append_right (by omega)] at hp
      have:=List.mem_of_getElem? hp
      rw[List.mem_singleton] at this
      subst this
      rw[e2] at hgo
      cases hgo
    ·rcases List.mem_append.mp hr' with h | h
     ·exact hok r' h
     ·rw[List.mem_singleton] at h;subst h;exact e4
   try walk_at "ev"
   try simp only[g12]
   split
   ·refine⟨Xb (Z3 hw6),.inl ⟨_,-1,_,rfl,nu6,lastN,r,rfl,k6.dr,fun x7 M7 k7=>?_⟩⟩
    try walk_at "ev"
    have nu7:=k7.L hne3 nu6
    try walk_at "ev"
    refine Yq nu7 ?_
    try walk_at "ev"
    rw[Xo]
    try walk_at "ev"
    refine⟨by rw[List.length_append,List.length_singleton];omega,Ro nu7 (by rw[List.length_append,List.length_singleton];omega) rfl fun t ht=>⟨Z2 (by decide),?_⟩⟩
    exact fin (.jump z t) _ rfl rfl (fun g e=>by cases e;exact ht) ⟨trivial,trivial⟩ (k6.trans k7) [some (.ref r),some (.ref na),some (.int many),some (.int m),some (.ref M3.length),none,some (.ref M4.length)] none rfl
   ·refine⟨Xb (Z3 hw6),.inl ⟨_,-1,_,rfl,nu6,lastN,Z2 (by decide),?_⟩⟩
    exact fin (.fin z) _ rfl rfl (fun g e=>by cases e) ⟨trivial,trivial⟩ k6 [some (.ref r),some (.ref na),some (.int many),some (.int m),some (.ref M3.length),none,some (.ref M4.length)] none rfl
end
def Yd:DSp:=fun ds M Q _=>∃c:Int,ds=[.int c]∧0≤c∧∀(l:List Str) M' r,l.length=4→Kp M M'→Zg M' r=some (l.map D.str)→Q (.ref r) M'
section
variable{K:PySem.W.Frag}
theorem Y06{S:Str}{i:Nat}(h:i<S.length):∃c,atI S.cps.toList (i:Int)=some c:=by
 have:i<S.cps.toList.length:=by rw[Array.length_toList];exact h
 exact⟨_,Rk (List.getElem?_eq_getElem this)⟩
theorem nm_A{Γ G}{P:DEnds}{M:Z1}{c:Int}{R:Ss}(h:∀sz n:Nat,sz<8→n<1+sz→tss ⟨K,Γ,G⟩ noX R P [some (.int c),some (.int ((1+sz:Nat):Int)),some (.int (n:Nat)),none,none,none,none] M):
  tss ⟨K,Γ,G⟩ noX (.cons (.set [1] (.bin .add (.int 1) (.bin .mod (.var 0) (.int 8)))) (.cons (.set [2] (.bin .mod (.bin .fdiv (.var 0) (.int 8)) (.var 1))) R)) P [some (.int c),none,none,none,none,none,none] M:=by
 walk_at "ev"
 have m1:=Int.emod_nonneg c (show(8:Int)≠0 by decide)
 have m2:=Int.emod_lt_of_pos c (show(0:Int)<8 by decide)
 rw[qm (show(0:Int)<8 by decide)]
 obtain⟨sz,hsz,esz⟩:∃sz:Nat,sz<8∧c % 8=(sz:Int):=⟨(c % 8).toNat,by omega,by omega⟩
 rw[esz,qm (show(0:Int)<1+(sz:Int) by omega)]
 have a1:=Int.emod_nonneg (qdiv c 8) (show(1+(sz:Int))≠0 by omega)
 have a2:=Int.emod_lt_of_pos (qdiv c 8) (show(0:Int)<1+(sz:Int) by omega)
 obtain⟨n,hat,eat⟩:∃n:Nat,n<1+sz∧qdiv c 8 % (1+(sz:Int))=(n:Int):=⟨(qdiv c 8 % (1+(sz:Int))).toNat,by omega,by omega⟩
 rw[eat,show(1+(sz:Int))=((1+sz:Nat):Int) by omega]
 exact⟨Sy (by decide) (by decide),by omega,Yc (h sz n hsz hat)⟩
theorem nm_B{Γ G}{P:DEnds}{M:Z1}{d0 d1:Option D}{n:Nat}{S:Str}{R:Ss}(h36:S.length=36)(h:∀S':Str,0<S'.length→S'.length≤100→tss ⟨K,Γ,G⟩ noX R P [d0,d1,some (.int (n:Nat)),some (.str S'),none,none,none] M):
  tss ⟨K,Γ,G⟩ noX (.cons (.set [3] (.str S)) (.cons (.ite (.cmp .eq (.var 2) (.int 0)) (.cons (.set [3] (.sl (.var 3) .no (.yes (.int 26)))) .nil) .nil) R)) P [d0,d1,some (.int (n:Nat)),none,none,none,none] M:=by
 walk_at "ev"
 by_cases h0:n=0
 ·rw[if_pos (by omega)]
  refine⟨Z2 (by omega),Yc (h _ ?_ ?_)⟩
  ·have:=(fact_slice_ns S 26).1 (by decide) (by omega);omega
  ·have:=(fact_slice_ns S 26).1 (by decide) (by omega);omega
 ·rw[if_neg (by omega)]
  exact Yc (h _ (by omega) (by omega))
theorem nm_C{Γ G}{P:DEnds}{M:Z1}{c:Int}{sz n i r:Nat}{V S:Str}{d6:Option D}{xs:List D}(v8:V.length=8)(h0:0<S.length)(h1:S.length≤100)(hsz:sz<8)(hn:n<1+sz)(hi:i<4)(hr:Zi M r=some xs)(hx:xs.length≤100)
  (h:∀(x:Str) (d6:Option D),P.nx [some (.int c),some (.int ((1+sz:Nat):Int)),some (.int (n:Nat)),some (.str S),some (.ref r),some (.int (i:Nat)),d6] (M.set r (.lst (xs++[.str x])))):
  tss ⟨K,Γ,G⟩ noX (.cons (.set [6] (.ix (.var 3) (.bin .mod (.bin .add (.bin .fdiv (.var 0) (.int 64)) (.bin .mul (.int 7) (.var 5))) (.bf .len (.cons (.var 3) .nil))))) (.cons (.expr (.mt .append (.var 4) (.cons (.bin .add (.bin .add (.sl (.str V) .no (.yes (.var 2))) (.var 6)) (.sl (.str V) (.yes (.bin .add (.var 2) (.int 1))) (.yes (.var 1)))) .nil))) .nil)) P [some (.int c),some (.int ((1+sz:Nat):Int)),some (.int (n:Nat)),some (.str S),some (.ref r),some (.int (i:Nat)),d6] M:=by
 walk_at "ev"
 have b1:=Int.emod_nonneg (qdiv c 64+7 * (i:Int)) (show(S.length:Int)≠0 by omega)
 have b2:=Int.emod_lt_of_pos (qdiv c 64+7 * (i:Int)) (show(0:Int)<S.length by omega)
 obtain⟨j,hj,ej⟩:∃j:Nat,j<S.length∧(qdiv c 64+7 * (i:Int)) % S.length=(j:Int):=⟨((qdiv c 64+7 * (i:Int)) % S.length).toNat,by omega,by omega⟩
 rw[qm (show(0:Int)<S.length by omega),ej]
 obtain⟨ch,hch⟩:=Y06 hj
 refine⟨Sy (by decide) (by decide),mulR (by omega) (by omega),Z2 (by omega),by omega,Z2 (by omega),ch,hch,Yc ?_⟩
 have l1:=(fact_slice_ns V (n:Nat)).1 (by omega) (by omega)
 have l2:=fact_slice_ss V ((n+1:Nat):Int) ((1+sz:Nat):Int) (by omega) (by omega) (by omega)
 have l0:(⟨#[ch]⟩:Str).length=1:=rfl
 have la:(Txt.slice V none (some (n:Int))++(⟨#[ch]⟩:Str)).length=(Txt.slice V none (some (n:Int))).length+1:=by
  show(_++#[ch]:Array Nat).size=_
  rw[Array.size_append];rfl
 walk_at "ev"
 rw[show((n:Int)+1)=((n+1:Nat):Int) by omega]
 exact⟨Xb (Z3 hr),Z2 (by omega),Z2 (by omega),Z2 (by omega),Z2 (by omega),_,hr,Zl (by omega),Yc (h _ _)⟩
theorem Zi3{Γ G}:∀ds M Q Z,Yd ds M Q Z→tss ⟨K,Γ,G⟩ noX b_Lnames {nx:=fun _ M=>Q .non M,rt:=Q} (start0 Oa ds) M:=by
 rintro ds M Q Z ⟨c,rfl,hc,q⟩
 refine nm_A (R:= .cons (.set [3] (.str "abcdefghijklmnopqrstuvwxyz0123456789")) (.cons (.ite (.cmp .eq (.var 2) (.int 0)) (.cons (.set [3] (.sl (.var 3) .no (.yes (.int 26)))) .nil) .nil) Tq)) fun sz n hsz hn=>?_
 refine nm_B (by decide+kernel) fun S hS0 hS1=>?_
 simp only[Tq]
 walk_at "ev"
 refine⟨Z2 (by decide),by decide,by decide,?_⟩
 have e4:(4:Int).toNat=4:=rfl
 rw[e4]
 refine Wd (fun i σ M'=>∃(l:List Str) (d5 d6:Option D),σ=[some (D.int c),some (D.int ((1+sz:Nat):Int)),some (D.int (n:Nat)),some (D.str S),some (.ref M.length),d5,d6]∧M'=M++[.lst (l.map D.str)]∧l.length=i) ⟨[],none,none,rfl,rfl,rfl⟩ ?_ ?_
 ·rintro i σ M' C hi ⟨l,d5,d6,rfl,rfl,hl⟩ hC
  simp only[Int.zero_add]
  refine nm_C (V:="v7w8x9yz") (by decide+kernel) hS0 hS1 hsz hn hi (Y1 _ _ []) (by rw[List.length_map];omega) fun x d6=>?_
  rw[W5]
  exact hC _ _ ⟨l++[x],_,_,rfl,by rw[List.map_append];rfl,by rw[List.length_append,hl];rfl⟩
 ·rintro σ M' ⟨l,d5,d6,rfl,rfl,hl⟩
  simp only[Qu]
  walk_at "ev"
  exact q l _ _ hl (Kp.new _ _) (Yp _ _ [])
end
def Yh:DSp:=fun ds M Q _=>∃(r na:Nat),ds=[.ref r,.ref na]∧Dr M r∧na≠r∧Nms M na∧∀(kvs:List (Key×D)) M' z,MI 64 kvs→KI kvs→kvs.length≤4→Ke r M M'→Zd M' z=some kvs→M.length≤z→Q (.ref z) M'
theorem MI.put64{kvs:List (Key×D)}(h:MI 64 kvs)(k:Key){i:Int}(hi:Bits 64 i):MI 64 (putD kvs k (.int i)):=by
 intro j v e
 rw[Tc] at e
 split at e
 ·cases e;exact⟨i,rfl,hi⟩
 ·exact h j v e
theorem Ke.D{r a:Nat}{M M':Z1}{xs:List (Key×D)}(h:Ke r M M')(hx:a≠r)(e:Zd M a=some xs):Zd M' a=some xs:=by
 have:=X4 e
 unfold Zd at e ⊢
 rw[h.same a this hx]
 exact e
theorem Zq8{M:Z1}{a:Nat}{xs ys:List (Key×D)}(h:Zd M a=some ys):Zd (M.set a (.dct xs)) a=some xs:=by
 have:=X4 h
 unfold Zd
 rw[List.getElem?_set_self this]
section
variable{K:PySem.W.Frag}
theorem Z26{Γ G}(g14:Γ[14]?=some Yj)(g16:Γ[16]?=some Yb):∀ds M Q Z,Yh ds M Q Z→tss ⟨K,Γ,G⟩ noX b_Lmemory {nx:=fun _ M=>Q .non M,rt:=Q} (start0 Th ds) M:=by
 rintro ds M Q Z ⟨r,na,rfl,hd,har,⟨l,hl,hna⟩,q⟩
 have hnr:M.length≠r:=by have:=hd.lt;omega
 simp only[b_Lmemory,Th]
 walk_at "ev"
 refine⟨_,Zn hna,?_⟩
 try walk_at "ev"
 refine S3 (fun i σ M'=>∃(kvs:List (Key×D)) (d3 d4:Option D),σ=[some (.ref r),some (.ref na),some (.ref M.length),d3,d4]∧Ke r M M'∧Zd M' M.length=some kvs∧MI 64 kvs∧KI kvs∧kvs.length≤i) ⟨[],none,none,rfl,(Ke.refl hd).app _,Yo _ _ _,(fun k v e=>by cases e),(fun k v e=>by cases e),Nat.le_refl _⟩ ?_ ?_ ?_
 ·rintro i σ M' _ ⟨kvs,d3,d4,rfl,ke,hk,_⟩
  exact ke.L har hna
 ·rintro i dx σ M' C hx ⟨kvs,d3,d4,rfl,ke,hk,mi,ki,len⟩ hC
  rw[List.getElem?_map,Option.map_eq_some_iff] at hx
  obtain⟨x,hx,rfl⟩:=hx
  have hi:i<4:=by have:=(List.getElem?_eq_some_iff.mp hx).1;omega
  simp only[Rm]
  walk_at "ev"
  refine⟨r,rfl,ke.dr,fun w M1 k1=>?_⟩
  have hk1:=k1.D hnr hk
  try walk_at "ev"
  split
  ·refine⟨r,rfl,k1.dr,fun v M2 k2=>?_⟩
   have hk2:=k2.D hnr hk1
   try walk_at "ev"
   refine .inr ⟨kvs,_,hk2,rfl,Zl (by omega),?_⟩
   have hbit:Bits 64 (qmod (v:Int) 41 - 20):=by
    rw[qm (by decide)]
    have h1:=Int.emod_nonneg (v:Int) (show(41:Int)≠0 by decide)
    have h2:=Int.emod_lt_of_pos (v:Int) (show(0:Int)<41 by decide)
    generalize (v:Int) % 41=u at h1 h2
    unfold Bits
    omega
   exact hC _ _ ⟨_,_,_,rfl,((ke.trans k1).trans k2).set (Nat.le_refl _) hnr _,Zq8 hk2,mi.put64 _ hbit,ki.put _ _,by have:=Wz kvs (Sum.inr x) (.int (qmod (v:Int) 41 - 20));omega⟩
  ·try walk_at "ev"
   split
   ·refine⟨r,rfl,k1.dr,fun v M2 hv k2=>?_⟩
    have hk2:=k2.D hnr hk1
    try walk_at "ev"
    refine .inr ⟨kvs,_,hk2,rfl,Zl (by omega),?_⟩
    exact hC _ _ ⟨_,_,_,rfl,((ke.trans k1).trans k2).set (Nat.le_refl _) hnr _,Zq8 hk2,mi.put64 _ hv,ki.put _ _,by have:=Wz kvs (Sum.inr x) (.int v);omega⟩
   ·exact hC _ _ ⟨_,_,_,rfl,ke.trans k1,hk1,mi,ki,by omega⟩
 ·rintro σ M' ⟨kvs,d3,d4,rfl,ke,hk,mi,ki,len⟩
  simp only[Rs]
  try walk_at "ev"
  rw[List.length_map,hl] at len
  exact q _ _ _ mi ki len ke hk (Nat.le_refl _)
end
theorem Z73(n:Nat):UB.mag (n:Int)=n:=by unfold UB.mag;rw[if_neg (by omega)];omega
theorem Et(n:Nat):UB.mag (-1 - (n:Int))=n:=by rw[UB.mag_neg (by omega)];unfold Builtin.bitNot;omega
theorem Ow{x:Int}(h:0≤x):((UB.mag x:Nat):Int)=x:=by rw[UB.mag_pos h];omega
theorem Je{x:Int}(h:x<0):-1 - ((UB.mag x:Nat):Int)=x:=by rw[UB.mag_neg h];unfold Builtin.bitNot;omega
theorem Zj0(a b:Int):Builtin.bitXor (Builtin.bitXor a b) b=a:=by
 have hm:∀x y:Nat,(x ^^^ y) ^^^ y=x:=fun x y=>by rw[Nat.xor_assoc,Nat.xor_self,Nat.xor_zero]
 rcases Int.lt_or_le a 0 with ha | ha<;>rcases Int.lt_or_le b 0 with hb | hb
 ·rw[UB.xor_p (.inr ⟨ha,hb⟩),UB.xor_n (.inl ⟨by omega,hb⟩),Z73,hm,Je ha]
 ·rw[UB.xor_n (.inr ⟨ha,hb⟩),UB.xor_n (.inr ⟨by omega,hb⟩),Et,hm,Je ha]
 ·rw[UB.xor_n (.inl ⟨ha,hb⟩),UB.xor_p (.inr ⟨by omega,hb⟩),Et,hm,Ow ha]
 ·rw[UB.xor_p (.inl ⟨ha,hb⟩),UB.xor_p (.inl ⟨by omega,hb⟩),Z73,hm,Ow ha]
theorem q_r(a b:Int):a - b * qdiv a b=qmod a b:=by
 rw[←G9,←Qd]
 have:=Int.mul_fdiv_add_fmod a b
 omega
theorem q_0(a b:Int):qmod (a - qmod a b) b=0:=by
 have:a - qmod a b=b * qdiv a b:=by have:=q_r a b;omega
 rw[this,←Qd]
 exact Int.mul_fmod_right b _
theorem q_in{a b:Int}(hb:b≠0):(0≤qmod a b∧qmod a b<b)∨(b<qmod a b∧qmod a b≤0):=by
 rw[←Qd]
 rcases Int.lt_or_le 0 b with h0 | h0
 ·rw[Int.fmod_eq_emod_of_nonneg _ (by omega)]
  exact .inl ⟨Int.emod_nonneg a hb,Int.emod_lt_of_pos a h0⟩
 ·have e:=Int.neg_fmod_neg a b
  rw[Int.fmod_eq_emod_of_nonneg _ (by omega)] at e
  have:=Int.emod_nonneg (-a) (show -b≠0 by omega)
  have:=Int.emod_lt_of_pos (-a) (show 0< -b by omega)
  exact .inr ⟨by omega,by omega⟩
def Ys:DSp:=fun ds M Q _=>∃(sg:Str) (a b w:Int),ds=[.str sg,.int a,.int b,.int w]∧sg∈six∧mkS sg a b=some w∧Bits 9000 a∧Bits 9000 b∧Q (.bl true) M
def Wf:DSp:=fun ds M Q _=>∃(sg:Str) (a b:Int),ds=[.str sg,.int a,.int b]∧(sg="<"∨sg="=")∧Q (.bl (hld sg a b)) M
def Yw:DSp:=fun ds M Q _=>∃(r:Rw) (h n:Nat) (kvs:List (Key×D)) (s:D×List (Key×D)×Nat),ds=[s.1,r.d,.ref h]∧Zd M h=some kvs∧Fine n kvs∧RB r∧stp kvs (rn r)=some s∧Q (.bl true) M
section
variable{K:PySem.W.Frag}
theorem Gq{Γ G}:∀ds M Q Z,Ys ds M Q Z→tss ⟨K,Γ,G⟩ noX b_Lsum_fits {nx:=fun _ M=>Q .non M,rt:=Q} (start0 Wl ds) M:=by
 rintro ds M Q Z ⟨sg,a,b,w,rfl,hs,e,ha,hb,q⟩
 have mb:=Z72 ha hb e
 unfold mkS at e
 have fin:b≠0→∀(σ3:Option D),tss ⟨K,Γ,G⟩ noX Wj {nx:=fun _ M=>Q .non M,rt:=Q} [some (.str sg),some (.int a),some (.int b),σ3,some (.int (qmod a b))] M:=by
  intro h0 σ3
  simp only[Wj]
  walk_at "ev"
  refine⟨h0,?_⟩
  rw[q_0,if_neg (by simp)]
  simp only[T3]
  walk_at "ev"
  rcases q_in (a:=a) h0 with⟨h1,h2⟩ | ⟨h1,h2⟩
  ·rw[if_pos (by simpa using h1)]
   simpa[h1,h2] using q
  ·split
   ·rw[if_pos (by omega:¬qmod a b<b)];simpa[h1,h2] using q
   ·simpa[h1,h2] using q
 simp only[b_Lsum_fits,Wl]
 walk_at "ev"
 by_cases h:sg="+"
 ·rw[if_pos h] at e ⊢
  cases e
  try walk_at "ev"
  simpa using q
 rw[if_neg h] at e ⊢
 simp only[Tm]
 walk_at "ev"
 have hp:=h
 by_cases h:sg="-"
 ·rw[if_pos h] at e ⊢
  cases e
  try walk_at "ev"
  simpa using q
 rw[if_neg h] at e ⊢
 simp only[T7]
 walk_at "ev"
 have hm:=h
 by_cases h:sg="&"
 ·subst h
  rw[if_neg (by decide+kernel),if_neg (by decide+kernel),if_pos rfl] at e
  rw[if_pos rfl]
  cases e
  try walk_at "ev"
  simpa using q
 rw[if_neg h]
 simp only[Vy]
 walk_at "ev"
 have ha':=h
 by_cases h:sg="^"
 ·subst h
  rw[if_neg (by decide+kernel),if_neg (by decide+kernel),if_neg (by decide+kernel)] at e
  rw[if_pos rfl]
  cases e
  try walk_at "ev"
  rw[Zj0]
  simpa using q
 rw[if_neg h]
 simp only[Ta]
 walk_at "ev"
 have h0:b≠0:=by
  rintro rfl
  split at e
  ·cases e
  split at e
  ·cases e
  unfold six at hs
  simp only[List.mem_cons,List.not_mem_nil,or_false] at hs
  rcases hs with h1 | h1 | h1 | h1 | h1 | h1<;>contradiction
 rw[if_neg h0]
 try walk_at "ev"
 simp only[Tg]
 walk_at "ev"
 by_cases h3:sg="/"
 ·rw[if_pos h3,if_neg h0] at e
  rw[if_pos h3]
  cases e
  try walk_at "ev"
  refine⟨Ze5 hb mb (by decide),?_⟩
  rw[q_r]
  exact Yc (fin h0 _)
 ·rw[if_neg h3] at e ⊢
  have h4:sg="rest":=by
   unfold six at hs
   simp only[List.mem_cons,List.not_mem_nil,or_false] at hs
   rcases hs with h1 | h1 | h1 | h1 | h1 | h1<;>first | exact h1 | contradiction
  rw[if_pos h4,if_neg h0] at e
  cases e
  exact fin h0 _
theorem Zd2{Γ G}:∀ds M Q Z,Wf ds M Q Z→tss ⟨K,Γ,G⟩ noX b_Ltruth {nx:=fun _ M=>Q .non M,rt:=Q} (start0 Re ds) M:=by
 rintro ds M Q Z ⟨sg,a,b,rfl,hs,q⟩
 simp only[b_Ltruth,Re]
 walk_at "ev"
 unfold hld at q
 have ne1:¬("<":Str)="=":=by decide+kernel
 have ne2:¬("=":Str)="<":=by decide+kernel
 rcases hs with rfl | rfl
 ·rw[if_pos rfl] at q ⊢
  by_cases h:a<b
  ·rw[if_neg (not_not_intro h)];exact q
  ·rw[decide_eq_false h] at q
   rw[if_pos h,if_neg ne1,decide_eq_false ne1];exact q
 ·rw[if_neg ne2] at q
  rw[if_neg ne2,if_pos ne2,if_pos rfl];exact q
theorem AL.dd2{M:Z1}{d:D}(h:Dd d):AL M 2 d d:=by
 obtain⟨l,rfl,hl,hf⟩:=h
 refine .inr (.inl ⟨l,l,rfl,rfl,rfl,by omega,fun i a b h1 h2=>?_⟩)
 rw[h1] at h2
 cases h2
 exact AL.flat (List.all_eq_true.mp hf _ (List.mem_of_getElem? h1))
theorem Fine.b9{n:Nat}{kvs:List (Key×D)}(h:Fine n kvs){o:Opd}(ho:OB o):Bits 9000 (wI kvs o):=(h.mi.wth h.lo ho).mono (by have:=h.hi;omega)
theorem G0{Γ G}(g21:Γ[21]?=some (Y2 2))(g23:Γ[23]?=some Z8)(g24:Γ[24]?=some Ys)(g25:Γ[25]?=some Wf):∀ds M Q Z,Yw ds M Q Z→tss ⟨K,Γ,G⟩ noX b_Ldeed_fits {nx:=fun _ M=>Q .non M,rt:=Q} (start0 Xy ds) M:=by
 rintro ds M Q Z ⟨r,h,n,kvs,s,rfl,hd,fi,rb,e,q⟩
 simp only[b_Ldeed_fits,Xy]
 cases r with
 | jump k g=>cases e
 | fin k=>cases e
 | test k a sg b g=>
  have e:some _=some s:=e
  cases e
  simp only[Rw.d,testT]
  walk_at "ev"
  refine⟨_,rfl,?_⟩
  try walk_at "ev"
  refine⟨_,rfl,a,h,n,kvs,rfl,hd,fi.mi,?_⟩
  try walk_at "ev"
  refine⟨_,rfl,b,h,n,kvs,rfl,hd,fi.mi,?_⟩
  try walk_at "ev"
  refine⟨_,rfl,_,rfl,sg,_,_,rfl,rb.1.2.2,?_⟩
  try walk_at "ev"
  refine⟨Z2 (by decide),_,_,rfl,AL.dd2 ⟨_,rfl,by simp,rfl⟩,?_⟩
  exact q
 | sum k x a sg b=>
  have e:stp kvs (.sum x a sg b 0)=some s:=e
  rw[X5,Option.map_eq_some_iff] at e
  obtain⟨w,e,rfl⟩:=e
  simp only[Rw.d,sumT]
  walk_at "ev"
  refine⟨_,rfl,?_⟩
  try walk_at "ev"
  rw[if_neg (by decide+kernel)]
  try walk_at "ev"
  simp only[Vl]
  walk_at "ev"
  refine⟨_,rfl,?_⟩
  try walk_at "ev"
  simp only[Vn]
  walk_at "ev"
  refine⟨_,rfl,?_⟩
  try simp only[g23]
  refine⟨a,h,n,kvs,rfl,hd,fi.mi,?_⟩
  try walk_at "ev"
  refine⟨_,rfl,?_⟩
  try simp only[g23]
  refine⟨b,h,n,kvs,rfl,hd,fi.mi,?_⟩
  try walk_at "ev"
  refine⟨_,rfl,?_⟩
  try walk_at "ev"
  refine⟨_,rfl,?_⟩
  try walk_at "ev"
  simp only[Vm]
  walk_at "ev"
  refine⟨by decide,_,rfl,_,rfl,Z2 (by decide),_,_,rfl,AL.dd2 (d:= .tup [.str "sum",.str x,.int (wI kvs a),.str sg,.int (wI kvs b)]) ⟨_,rfl,by simp,rfl⟩,?_⟩
  try walk_at "ev"
  refine Yc ?_
  simp only[Vo]
  walk_at "ev"
  refine⟨_,rfl,_,rfl,?_⟩
  try simp only[g24]
  exact⟨sg,_,_,w,rfl,rb.2,‹mkS sg (wI kvs a) (wI kvs b)=some w›,fi.b9 rb.1.1,fi.b9 rb.1.2,q⟩
end
noncomputable def cI:Option Nat→Int
 | some q=>(q:Nat)
 | none=> -1
def Vld(rows:List Rw)(c:Option Nat):Prop:=∀p,c=some p→p<rows.length∧jmp rows p=none
noncomputable def plc(rows:List Rw):Nat→Option Nat→List (Key×D)→Option Nat
 | 0,c,_=>c
 | _+1,none,_=>none
 | k+1,some p,kv=>match (nds0 rows)[p]? with
  | some n=>match stp kv n with
   | some s=>plc rows k (chs rows (rows.length+1) s.2.2) s.2.1
   | none=>some p
  | none=>some p
theorem En(rows:List Rw)(k:Nat)(kv:List (Key×D)):plc rows k none kv=none:=by cases k<;>rfl
theorem Z44{rows:List Rw}{k p:Nat}{kv:List (Key×D)}{n:Nd}{s:D×List (Key×D)×Nat}(h:(nds0 rows)[p]?=some n)(e:stp kv n=some s):plc rows (k+1) (some p) kv=plc rows k (chs rows (rows.length+1) s.2.2) s.2.1:=by
 show(match (nds0 rows)[p]? with | some n=>(match stp kv n with | some s=>plc rows k (chs rows (rows.length+1) s.2.2) s.2.1 | none=>some p) | none=>some p)=_
 rw[h];dsimp only;rw[e]
theorem Z86{rows:List Rw}{k p:Nat}{kv:List (Key×D)}{n:Nd}(h:(nds0 rows)[p]?=some n)(e:stp kv n=none):plc rows (k+1) (some p) kv=some p:=by
 show(match (nds0 rows)[p]? with | some n=>(match stp kv n with | some s=>plc rows k (chs rows (rows.length+1) s.2.2) s.2.1 | none=>some p) | none=>some p)=_
 rw[h];dsimp only;rw[e]
theorem Zm2{rows:List Rw}(ok:RwOk rows):∀(f p r:Nat),p<rows.length→chs rows f p=some r→r<rows.length∧jmp rows r=none
 | 0,p,r,_,h=>by cases h
 | f+1,p,r,hp,h=>by
  cases e:jmp rows p with
  | none=>rw[Xx e] at h;cases h;exact⟨hp,e⟩
  | some q=>rw[Xw e] at h;exact Zm2 ok f q r (Jx ok e) h
theorem Vt{rows:List Rw}(ok:RwOk rows){f p:Nat}(hp:p<rows.length):Vld rows (chs rows f p):=fun r h=>Zm2 ok f p r hp h
noncomputable def Bp(rows:List Rw)(full:Bool):Option Nat→Str
 | none=>"on"
 | some p=>match rows[p]? with
  | some (.fin _)=>"end"
  | some (.sum _ _ _ _ _)=>if full=true then "on" else "fault"
  | _=>"on"
def Stk(rows:List Rw)(full:Bool)(kv:List (Key×D))(c:Option Nat):Prop:=full=false→∀p r,c=some p→rows[p]?=some r→r.goes=true→stp kv (rn r)=none
structure Fns(rows:List Rw)(k:Nat)(c:Option Nat)(kv:List (Key×D)):Prop where
 word:(lawC rows k c kv).2.1=Bp rows (decide ((lawC rows k c kv).1.length=k)) (plc rows k c kv)
 vld:Vld rows (plc rows k c kv)
 stop:Stk rows (decide ((lawC rows k c kv).1.length=k)) (lawC rows k c kv).2.2 (plc rows k c kv)
 more:∀j,0<j→lawC rows (k+j) c kv=((lawC rows k c kv).1++(lawC rows j (plc rows k c kv) (lawC rows k c kv).2.2).1,(lawC rows j (plc rows k c kv) (lawC rows k c kv).2.2).2)
theorem Zm8(rows:List Rw)(p:Nat)(kv:List (Key×D))(r:Rw):(stp kv (rn r)).map (·.1)=(stp kv (r.node rows (fun p=>p) p)).map (·.1):=by
 cases r with
 | sum k x a sg b=>
  show(stp kv (.sum x a sg b 0)).map (·.1)=(stp kv (.sum x a sg b (p+1))).map (·.1)
  rw[X5,X5,Option.map_map,Option.map_map]
  rfl
 | test k a sg b g=>rfl
 | jump k g=>rfl
 | fin k=>rfl
theorem Zu3{rows:List Rw}(ok:RwOk rows):∀(k:Nat) (c:Option Nat) (kv:List (Key×D)),Vld rows c→Fns rows k c kv:=by
 intro k
 induction k with
 | zero=>
  intro c kv v
  have ep:plc rows 0 c kv=c:=rfl
  cases c with
  | none=>
   refine⟨?_,fun p h=>(by cases h),fun _ p r h=>(by cases h),fun j _=>?_⟩
   ·rw[Zp];rfl
   ·rw[Zp,Zp,ep,Zp];rfl
  | some p=>
   obtain⟨hp,hj⟩:=v p rfl
   obtain⟨r,hr⟩:∃r,rows[p]?=some r:=⟨_,List.getElem?_eq_getElem hp⟩
   have e:=Ym (k:=0) (kv:=kv) (Za (L:=fun p=>p) hr) (.inr rfl)
   refine⟨?_,v,fun h=>?_,fun j _=>?_⟩
   ·rw[e,ep]
    unfold Bp
    dsimp only
    rw[hr]
    cases r<;>rfl
   ·rw[e] at h;cases h
   ·rw[e,ep,Nat.zero_add];rfl
 | succ k ih=>
  intro c kv v
  cases c with
  | none=>
   have ep:=En rows (k+1) kv
   refine⟨?_,ep.symm ▸ v,fun _ p r h=>(by rw[ep] at h;cases h),fun j _=>?_⟩
   ·rw[Zp,ep];rfl
   ·rw[ep,Zp,Zp,Zp];rfl
  | some p=>
   obtain⟨hp,hj⟩:=v p rfl
   obtain⟨r,hr⟩:∃r,rows[p]?=some r:=⟨_,List.getElem?_eq_getElem hp⟩
   have hn:(nds0 rows)[p]?=some _:=Za (L:=fun p=>p) hr
   cases es:stp kv (r.node rows (fun p=>p) p) with
   | some s=>
    have e:∀k,lawC rows (k+1) (some p) kv=_:=fun k=>W3 hn es
    have ep:=Z44 (k:=k) hn es
    obtain⟨w,v',st,mo⟩:=ih (chs rows (rows.length+1) s.2.2) s.2.1 (Vt ok (J1 ok hr es))
    have ed:decide ((lawC rows (k+1) (some p) kv).1.length=k+1)=decide ((lawC rows k (chs rows (rows.length+1) s.2.2) s.2.1).1.length=k):=by
     rw[e]
     exact decide_eq_decide.mpr (by rw[List.length_cons];omega)
    refine⟨?_,ep.symm ▸ v',?_,fun j hj=>?_⟩
    ·rw[ed,ep,←w,e]
    ·rw[ed,ep,e];exact st
    ·rw[show k+1+j=(k+j)+1 by omega,e,mo j hj,ep,e];rfl
   | none=>
    have ep:=Z86 (k:=k) hn es
    cases g:(r.node rows (fun p=>p) p).goes with
    | true=>
     have e:∀k,lawC rows (k+1) (some p) kv=_:=fun k=>Wi hn g es
     refine⟨?_,ep.symm ▸ v,?_,fun j hj=>?_⟩
     ·rw[e,ep]
      unfold Bp
      dsimp only
      rw[hr]
      cases r with
      | test k a sg b g=>cases es
      | sum k x a sg b=>rfl
      | jump k g=>cases g
      | fin k=>cases g
     ·rw[ep]
      intro _ p' r' h1 h2 h3
      cases h1
      rw[hr] at h2
      cases h2
      have:=Zm8 rows p kv r
      rw[es] at this
      rw[e]
      exact Option.map_eq_none_iff.mp this
     ·obtain⟨j,rfl⟩:∃j',j=j'+1:=⟨j - 1,by omega⟩
      rw[show k+1+(j+1)=(k+j+1)+1 by omega,e,ep,e,e];rfl
    | false=>
     have e:∀k,lawC rows k (some p) kv=_:=fun k=>Ym hn (.inl g)
     refine⟨?_,ep.symm ▸ v,?_,fun j hj=>?_⟩
     ·rw[e,ep]
      unfold Bp
      dsimp only
      rw[hr]
      cases r with
      | test k a sg b g=>cases g
      | sum k x a sg b=>cases g
      | jump k g=>unfold jmp at hj;rw[hr] at hj;cases hj
      | fin k=>rfl
     ·rw[ep]
      intro _ p' r' h1 h2 h3
      cases h1
      rw[hr] at h2
      cases h2
      cases r with
      | test k a sg b g=>cases g
      | sum k x a sg b=>cases g
      | jump k g=>cases h3
      | fin k=>cases h3
     ·rw[ep,e,e,e];rfl
theorem Ze1{rows:List Rw}{k:Nat}{c:Option Nat}{kv:List (Key×D)}{d:D}{t:List D}(v:Vld rows c)(e:(lawC rows k c kv).1=d::t):∃k' p r s,k=k'+1∧c=some p∧rows[p]?=some r∧stp kv (r.node rows (fun p=>p) p)=some s∧d=s.1∧t=(lawC rows k' (chs rows (rows.length+1) s.2.2) s.2.1).1:=by
 cases c with
 | none=>rw[Zp] at e;cases e
 | some p=>
  obtain⟨hp,hj⟩:=v p rfl
  obtain⟨r,hr⟩:∃r,rows[p]?=some r:=⟨_,List.getElem?_eq_getElem hp⟩
  have hn:(nds0 rows)[p]?=some _:=Za (L:=fun p=>p) hr
  cases k with
  | zero=>rw[Ym hn (.inr rfl)] at e;cases e
  | succ k=>
   cases es:stp kv (r.node rows (fun p=>p) p) with
   | none=>
    cases g:(r.node rows (fun p=>p) p).goes with
    | true=>rw[Wi hn g es] at e;cases e
    | false=>rw[Ym hn (.inl g)] at e;cases e
   | some s=>
    rw[W3 hn es] at e
    cases e
    exact⟨k,p,r,s,rfl,rfl,hr,es,rfl,rfl⟩
theorem Zo5{rows:List Rw}{k:Nat}{c:Option Nat}{kv:List (Key×D)}(v:Vld rows c)(e:(lawC rows k c kv).1=[]):(lawC rows k c kv).2.2=kv∧plc rows k c kv=c:=by
 cases c with
 | none=>rw[Zp,En];exact⟨rfl,rfl⟩
 | some p=>
  obtain⟨hp,hj⟩:=v p rfl
  obtain⟨r,hr⟩:∃r,rows[p]?=some r:=⟨_,List.getElem?_eq_getElem hp⟩
  have hn:(nds0 rows)[p]?=some _:=Za (L:=fun p=>p) hr
  cases k with
  | zero=>rw[Ym hn (.inr rfl)];exact⟨rfl,rfl⟩
  | succ k=>
   cases es:stp kv (r.node rows (fun p=>p) p) with
   | none=>
    rw[Z86 hn es]
    cases g:(r.node rows (fun p=>p) p).goes with
    | true=>rw[Wi hn g es];exact⟨rfl,rfl⟩
    | false=>rw[Ym hn (.inl g)];exact⟨rfl,rfl⟩
   | some s=>rw[W3 hn es] at e;cases e
def PlD(rows:List Rw)(PL:List (Key×D)):Prop:=∀g∈rows.map Rw.num,valD PL (Sum.inl (g:Int))=some (.int (Vp rows g:Nat))
def Rq:DSp:=fun ds M Q _=>∃(a pl p:Nat) (rows:List Rw) (PL:List (Key×D)),ds=[.ref a,.ref pl,.int (p:Nat)]∧Zg M a=some (rows.map Rw.d)∧Zd M pl=some PL∧PlD rows PL∧RwOk rows∧p<rows.length∧Q (.int (cI (chs rows (rows.length+1) p))) M
def Kh(h:Nat)(M M':Z1):Prop:=M.length≤M'.length∧∀x,x<M.length→x≠h→M'[x]?=M[x]?
def Qx:DSp:=fun ds M Q _=>∃(a h dr most:Nat) (rows:List Rw) (kvs:List (Key×D)),ds=[.ref a,.ref h,.ref dr]∧Zg M a=some (rows.map Rw.d)∧Zd M h=some kvs∧Zi M dr=some (lawR rows most kvs).1∧RwOk rows∧(∀r∈rows,RB r)∧MI 64 kvs∧kvs.length≤50∧most≤1000∧
 ∀M',Kh h M M'→Zd M' h=some (lawR rows most kvs).2.2→Q (.int (cI (plc rows most (chs rows (rows.length+1) 0) kvs))) M'
def Jr:DSp:=fun ds M Q _=>∃(a h n:Nat) (rows:List Rw) (kv:List (Key×D)) (c:Option Nat) (full:Bool),ds=[.ref a,.int (cI c),.ref h,.bl full]∧Zg M a=some (rows.map Rw.d)∧Zd M h=some kv∧MI n kv∧Vld rows c∧Stk rows full kv c∧∀M',Kp M M'→Q (.str (Bp rows full c)) M'
def Q7:DSp:=fun ds M Q _=>∃(r h most:Nat) (w:Str) (l:List D) (kv:List (Key×D)),ds=[.tup [.ref r,.str w,.ref h],.int (most:Nat)]∧Zi M r=some l∧Zd M h=some kv∧l.length≤most∧Q (.bl true) M
theorem Zy3{M:Z1}{a h:Nat}{xs:List D}{kvs:List (Key×D)}(h1:Zg M a=some xs)(h2:Zd M h=some kvs):h≠a:=by
 rintro rfl
 unfold Zg at h1
 rw[We h2] at h1
 cases h1
theorem Y90{M:Z1}{a b:Nat}{c:Cell}(h:a≠b):Zg (M.set a c) b=Zg M b:=by unfold Zg;rw[List.getElem?_set_ne h]
theorem Ze7{M:Z1}{h:Nat}{c:Cell}(e:M[h]?=some c):M.set h c=M:=by
 apply List.ext_getElem?
 intro i
 by_cases z:h=i
 ·subst z
  rw[List.getElem?_set_self (List.getElem?_eq_some_iff.mp e).1,e]
 ·rw[List.getElem?_set_ne z]
theorem Js:∀(ps m:List (Key×D)),(ps.foldl (fun m p=>putD m p.1 p.2) m).length≤m.length+ps.length
 | [],m=>Nat.le_refl _
 | p::r,m=>by
  have h1:=Js r (putD m p.1 p.2)
  have h2:=Wz m p.1 p.2
  show(r.foldl (fun m p=>putD m p.1 p.2) (putD m p.1 p.2)).length≤_
  rw[List.length_cons];omega
theorem Z42(ps:List (Key×D)):(V6 ps).length≤ps.length:=by have:=Js ps [];rw[List.length_nil,Nat.zero_add] at this;exact this
theorem W4{rows:List Rw}{p:Nat}{r:Rw}(h:rows[p]?=some r):(rows.map Rw.d)[p]?=some r.d:=by rw[List.getElem?_map,h];rfl
section
variable{K:PySem.W.Frag}
theorem C9{Γ G}:∀ds M Q Z,Rq ds M Q Z→tss ⟨K,Γ,G⟩ noX b_Lcome_to {nx:=fun _ M=>Q .non M,rt:=Q} (start0 Vg ds) M:=by
 rintro ds M Q Z ⟨a,pl,p,rows,PL,rfl,ha,hp,pd,ok,hlt,q⟩
 have hsm:=ok.small
 simp only[b_Lcome_to,Vg]
 walk_at "ev"
 refine Yq ha ?_
 rw[List.length_map]
 try walk_at "ev"
 refine⟨by omega,by omega,?_⟩
 try walk_at "ev"
 rw[show((rows.length:Int)+1).toNat=rows.length+1 by omega]
 refine Wd (fun i σ M'=>∃(y:Nat) (d3:Option D),σ=[some (.ref a),some (.ref pl),some (.int (y:Nat)),d3]∧M'=M∧y<rows.length∧chs rows (rows.length+1 - i) y=chs rows (rows.length+1) p) ⟨p,none,rfl,rfl,hlt,rfl⟩ ?_ ?_
 ·rintro i σ M' C hi ⟨y,d3,rfl,rfl,hy,e⟩ hC
  obtain⟨r,hr⟩:∃r,rows[y]?=some r:=⟨_,List.getElem?_eq_getElem hy⟩
  rw[show rows.length+1 - i=(rows.length - i)+1 by omega] at e
  simp only[Se,Int.zero_add]
  walk_at "ev"
  refine ix_l ha (W4 hr) ?_
  cases r with
  | jump k g=>
   have hg:=ok.goal _ (List.mem_of_getElem? hr) g rfl
   rw[Xw (show jmp rows y=some (Vp rows g) by unfold jmp;rw[hr])] at e
   simp only[Rw.d]
   try walk_at "ev"
   refine⟨_,rfl,?_⟩
   try walk_at "ev"
   simp only[Sa]
   walk_at "ev"
   refine ix_l ha (W4 hr) ?_
   simp only[Rw.d]
   try walk_at "ev"
   refine⟨_,rfl,ix_d hp rfl (pd g hg) ?_⟩
   try walk_at "ev"
   exact hC _ _ ⟨_,_,rfl,rfl,Pv hg,by rw[←e];congr 1;omega⟩
  | _=>
   rw[Xx (show jmp rows y=none by unfold jmp;rw[hr])] at e
   rw[←e] at q
   simp only[Rw.d]
   try walk_at "ev"
   refine⟨_,rfl,?_⟩
   try walk_at "ev"
   rw[if_pos (by decide+kernel)]
   try walk_at "ev"
   exact q
 ·rintro σ M' ⟨y,d3,rfl,rfl,hy,e⟩
  rw[Nat.sub_self] at e
  rw[←e] at q
  simp only[Sb]
  walk_at "ev"
  exact q
theorem Zc4{Γ G}:∀ds M Q Z,Q7 ds M Q Z→tss ⟨K,Γ,G⟩ noX b_Lkinds {nx:=fun _ M=>Q .non M,rt:=Q} (start0 R7 ds) M:=by
 rintro ds M Q Z ⟨r,h,most,w,l,kv,rfl,hr,hh,hl,q⟩
 have i1:∀{t:Ty} {B:Bool→Prop},isD K M (.ref r) (.ty (Yt t)) B=B (tyLst t):=fun{t B}=>Z61 hr
 have i2:∀{t:Ty} {B:Bool→Prop},isD K M (.ref h) (.ty (Yt t)) B=B (tyDct t):=fun{t B}=>Zn0 hh
 simp only[b_Lkinds,R7]
 walk_at "ev"
 refine⟨_,rfl,?_⟩
 simp only[i1]
 try walk_at "ev"
 simp only[Pg]
 walk_at "ev"
 refine⟨_,rfl,?_⟩
 try walk_at "ev"
 refine⟨_,rfl,?_⟩
 simp only[i2]
 try walk_at "ev"
 refine⟨_,rfl,Yq (Z3 hr) ?_⟩
 try walk_at "ev"
 have:((l.length:Int)≤(most:Int)):=by omega
 simpa[this] using q
theorem Zr3{Γ G}(g23:Γ[23]?=some Z8):∀ds M Q Z,Jr ds M Q Z→tss ⟨K,Γ,G⟩ noX b_Lword {nx:=fun _ M=>Q .non M,rt:=Q} (start0 O9 ds) M:=by
 rintro ds M Q Z ⟨a,h,n,rows,kv,c,full,rfl,ha,hh,mi,v,st,q⟩
 simp only[b_Lword,O9]
 cases c with
 | none=>
  walk_at "ev"
  exact q _ (Kp.refl _)
 | some p=>
  obtain⟨hp,hj⟩:=v p rfl
  obtain⟨r,hr⟩:∃r,rows[p]?=some r:=⟨_,List.getElem?_eq_getElem hp⟩
  have st:=st
  simp only[cI]
  walk_at "ev"
  rw[if_neg (by omega)]
  try walk_at "ev"
  simp only[N5]
  walk_at "ev"
  refine ix_l ha (W4 hr) ?_
  unfold Bp at q
  dsimp only at q
  rw[hr] at q
  cases r with
  | jump k g=>unfold jmp at hj;rw[hr] at hj;cases hj
  | fin k=>
   simp only[Rw.d]
   try walk_at "ev"
   refine⟨_,rfl,?_⟩
   try walk_at "ev"
   exact q _ (Kp.refl _)
  | test k o1 sg o2 g=>
   simp only[Rw.d]
   try walk_at "ev"
   refine⟨_,rfl,?_⟩
   try walk_at "ev"
   rw[if_neg (by decide+kernel)]
   try walk_at "ev"
   simp only[Qj]
   cases full with
   | true=>walk_at "ev";exact q _ (Kp.refl _)
   | false=>cases st rfl p _ rfl hr rfl
  | sum k x o1 sg o2=>
   simp only[Rw.d]
   try walk_at "ev"
   refine⟨_,rfl,?_⟩
   try walk_at "ev"
   rw[if_neg (by decide+kernel)]
   try walk_at "ev"
   simp only[Qj]
   cases full with
   | true=>walk_at "ev";exact q _ (Kp.refl _)
   | false=>
    have e:stp kv (.sum x o1 sg o2 0)=none:=st rfl p _ rfl hr rfl
    rw[X5,Option.map_eq_none_iff,Z51] at e
    walk_at "ev"
    simp only[Nz]
    walk_at "ev"
    refine ix_l ha (W4 hr) ?_
    simp only[Rw.d]
    try walk_at "ev"
    refine⟨_,rfl,?_⟩
    try walk_at "ev"
    refine ix_l ha (W4 hr) ?_
    simp only[Rw.d]
    try walk_at "ev"
    refine⟨_,rfl,Z2 (by decide),.inl ⟨_,Yp _ _ [],rfl,rfl,?_⟩⟩
    rw[Zt3,decide_eq_true e.2]
    try walk_at "ev"
    refine ix_l (Zn ha) (W4 hr) ?_
    simp only[Rw.d]
    try walk_at "ev"
    refine⟨_,rfl,?_⟩
    try simp only[g23]
    refine⟨o2,h,n,kv,rfl,Y4 hh,mi,?_⟩
    rw[e.1]
    try walk_at "ev"
    exact q _ (Kp.new _ _)
end
section
variable{K:PySem.W.Frag}
theorem Zu7{Γ G}(g26:Γ[26]?=some Yw)(g27:Γ[27]?=some Rq):∀ds M Q Z,Qx ds M Q Z→tss ⟨K,Γ,G⟩ noX b_Lwalk {nx:=fun _ M=>Q .non M,rt:=Q} (start0 Oe ds) M:=by
 rintro ds M Q Z ⟨a,h,dr,most,rows,kvs,rfl,ha,hh,hdr,ok,rb,mi0,kl0,hm,q⟩
 have hsm:=ok.small
 have hpos:=ok.pos
 simp only[b_Lwalk,Oe]
 walk_at "ev"
 refine Yq (Zn ha) ⟨by omega,by rw[List.length_map];omega,?_⟩
 try walk_at "ev"
 rw[Int.toNat_natCast,List.length_map]
 refine Wd (fun i σ M'=>∃d4,σ=[some (.ref a),some (.ref h),some (.ref dr),some (.ref M.length),d4,none,none,none]∧M'=M++[.dct (V6 (numP ((rows.map Rw.num).take i)))]) ⟨none,rfl,rfl⟩ ?_ ?_
 ·rintro i σ M' C hi ⟨d4,rfl,rfl⟩ hC
  obtain⟨r,hr⟩:∃r,rows[i]?=some r:=⟨_,List.getElem?_eq_getElem hi⟩
  have hnum:(rows.map Rw.num)[i]?=some r.num:=by rw[List.getElem?_map,hr];rfl
  simp only[G3,Int.zero_add]
  walk_at "ev"
  refine ix_l (k:=i) (Zn ha) (W4 hr) ?_
  have e0:∀F:D→Prop,F (.int (r.num:Nat))→ixD (M++[.dct (V6 (numP ((rows.map Rw.num).take i)))]) r.d (.int 0) F:=fun F f=>by cases r<;>exact⟨_,rfl,f⟩
  refine e0 _ (.inr ⟨_,_,Yo _ _ _,rfl,?_,?_⟩)
  ·have:=Z42 (numP ((rows.map Rw.num).take i))
   rw[Ot,List.length_take] at this
   exact Zl (by omega)
  ·rw[W5]
   refine hC _ _ ⟨_,rfl,?_⟩
   rw[V7 hnum,Qb,Pu,List.length_take,List.length_map,Nat.min_eq_left (by omega)]
 rintro σ M' ⟨d4,rfl,rfl⟩
 rw[←List.length_map (f:=Rw.num) (as:=rows),List.take_length]
 have hPL:PlD rows (V6 (numP (rows.map Rw.num))):=fun g hg=>Om _ _ rfl ok.nd g hg
 generalize V6 (numP (rows.map Rw.num))=PL at hPL ⊢
 have hlt:=X4 hh
 have na:h≠a:=Zy3 ha hh
 have nd:h≠dr:=Zy3 (Z3 hdr) hh
 have np:h≠M.length:=by omega
 have rA:∀c,Zg ((M++[Cell.dct PL]).set h c) a=some (rows.map Rw.d):=fun c=>by rw[Y90 na];exact Zn ha
 have rP:∀c,Zd ((M++[Cell.dct PL]).set h c) M.length=some PL:=fun c=>by rw[Sg np];exact Yo _ _ _
 have rR:∀c,Zi ((M++[Cell.dct PL]).set h c) dr=some (lawR rows most kvs).1:=fun c=>by rw[Ca nd];exact Ze hdr
 have rH:∀kv,Zd ((M++[Cell.dct PL]).set h (.dct kv)) h=some kv:=fun kv=>Zq8 (Y4 hh)
 simp only[Jp]
 walk_at "ev"
 try simp only[g27]
 refine⟨a,M.length,0,rows,PL,rfl,Zn ha,Yo _ _ _,hPL,ok,hpos,?_⟩
 try walk_at "ev"
 refine⟨_,Z3 (Ze hdr),?_⟩
 try walk_at "ev"
 refine S3 (fun i σ M'=>∃(k:Nat) (c:Option Nat) (kv:List (Key×D)) (d4 d6 d7:Option D),σ=[some (.ref a),some (.ref h),some (.ref dr),some (.ref M.length),d4,some (.int (cI c)),d6,d7]∧M'=(M++[Cell.dct PL]).set h (.dct kv)∧i+k=most∧Vld rows c∧(lawR rows most kvs).1.drop i=(lawC rows k c kv).1∧(lawC rows k c kv).2.2=(lawR rows most kvs).2.2∧plc rows k c kv=plc rows most (chs rows (rows.length+1) 0) kvs∧MI (64+i) kv∧kv.length≤50+i)
  ⟨most,_,kvs,_,none,none,rfl,(Ze7 (We (Y4 hh))).symm,Nat.zero_add _,Vt ok hpos,rfl,rfl,rfl,mi0,kl0⟩ ?_ ?_ ?_
 ·rintro i σ M' _ ⟨k,c,kv,d4,d6,d7,rfl,rfl,_⟩
  exact Z3 (rR _)
 ·rintro i dx σ M' C hx ⟨k,c,kv,d4,d6,d7,rfl,rfl,hk,v,e1,e2,e3,mi,kl⟩ hC
  obtain⟨hi,hx'⟩:=List.getElem?_eq_some_iff.mp hx
  rw[List.drop_eq_getElem_cons hi,hx'] at e1
  obtain⟨k,p,r,s,rfl,rfl,hr,es,rfl,et⟩:=Ze1 v e1.symm
  have hn:(nds0 rows)[p]?=some _:=Za (L:=fun p=>p) hr
  obtain⟨hp,hj⟩:=v p rfl
  have hrb:=rb r (List.mem_of_getElem? hr)
  obtain⟨s',hs',es'⟩:∃s',stp kv (rn r)=some s'∧s'.1=s.1:=by
   have:=Zm8 rows p kv r
   rw[es] at this
   exact Option.map_eq_some_iff.mp this
  have hs:=J1 ok hr es
  obtain⟨mi',len',_⟩:=Qe (n:=64+i) mi (by omega) (show NB (r.node rows (fun p=>p) p) by have:=hrb.1;cases r<;>exact this) es
  rw[W3 hn es] at e2
  rw[Z44 hn es] at e3
  have nxt:∀(d4 d6 d7:Option D),C [some (.ref a),some (.ref h),some (.ref dr),some (.ref M.length),d4,some (.int (cI (chs rows (rows.length+1) s.2.2))),d6,d7] ((M++[Cell.dct PL]).set h (.dct s.2.1)):=fun d4 d6 d7=>hC _ _ ⟨k,_,s.2.1,d4,d6,d7,rfl,rfl,by omega,Vt ok hs,et,e2,e3,mi',by omega⟩
  simp only[Jm,cI]
  walk_at "ev"
  rw[if_pos (by omega)]
  refine ix_l (rA _) (W4 hr) ?_
  try simp only[g26]
  refine⟨r,h,64+i,kv,s',by rw[es'],rH _,⟨mi,by omega,by omega⟩,hrb,hs',?_⟩
  try walk_at "ev"
  refine Yc ?_
  simp only[Jt]
  walk_at "ev"
  refine ix_l (rA _) (W4 hr) ?_
  clear es' hs' e1 hx hx' et e2 e3
  cases r with
  | jump k g=>cases es
  | fin k=>cases es
  | sum kk x o1 sg o2=>
   have es:stp kv (.sum x o1 sg o2 (p+1))=some s:=es
   rw[X5,Option.map_eq_some_iff] at es
   obtain⟨w,ew,rfl⟩:=es
   simp only[Rw.d,sumT]
   try walk_at "ev"
   refine⟨_,rfl,?_⟩
   try walk_at "ev"
   refine⟨_,rfl,_,rfl,.inr ⟨kv,_,rH _,rfl,Zl (by omega),?_⟩⟩
   rw[List.set_set]
   try walk_at "ev"
   try refine Yc ?_
   simp only[Ri]
   walk_at "ev"
   refine⟨_,rfl,?_⟩
   try walk_at "ev"
   rw[if_neg (by decide+kernel)]
   try walk_at "ev"
   try simp only[g27]
   rw[show((p:Int)+1)=((p+1:Nat):Int) by omega]
   refine⟨a,M.length,p+1,rows,PL,rfl,rA _,rP _,hPL,ok,hs,?_⟩
   try walk_at "ev"
   exact nxt _ _ _
  | test kk o1 sg o2 g=>
   have hg:=ok.goal _ (List.mem_of_getElem? hr) g rfl
   have es:some _=some s:=es
   cases es
   simp only[Rw.d,testT]
   try walk_at "ev"
   refine⟨_,rfl,?_⟩
   try walk_at "ev"
   rw[if_neg (by decide+kernel)]
   try walk_at "ev"
   try refine Yc ?_
   simp only[Ri]
   walk_at "ev"
   refine⟨_,rfl,?_⟩
   try walk_at "ev"
   refine⟨_,rfl,?_⟩
   try walk_at "ev"
   dsimp only at hs nxt
   by_cases hb:hld sg (wI kv o1) (wI kv o2)=true
   ·simp only[if_pos hb] at hs nxt
    rw[if_pos hb]
    refine⟨_,rfl,ix_d (rP _) rfl (hPL g hg) ?_⟩
    try simp only[g27]
    refine⟨a,M.length,Vp rows g,rows,PL,rfl,rA _,rP _,hPL,ok,hs,?_⟩
    try walk_at "ev"
    exact nxt _ _ _
   ·simp only[if_neg hb] at hs nxt
    rw[if_neg hb]
    try simp only[g27]
    rw[show((p:Int)+1)=((p+1:Nat):Int) by omega]
    refine⟨a,M.length,p+1,rows,PL,rfl,rA _,rP _,hPL,ok,hs,?_⟩
    try walk_at "ev"
    exact nxt _ _ _
 ·rintro σ M' ⟨k,c,kv,d4,d6,d7,rfl,rfl,hk,v,e1,e2,e3,mi,kl⟩
  rw[List.drop_eq_nil_of_le (Nat.le_refl _)] at e1
  obtain⟨f1,f2⟩:=Zo5 v e1.symm
  rw[f1] at e2
  rw[f2] at e3
  simp only[Nj]
  walk_at "ev"
  rw[e3]
  refine q _ ⟨by rw[List.length_set,List.length_append];omega,fun x hx hn=>?_⟩ (by rw[rH,e2])
  rw[List.getElem?_set_ne (Ne.symm hn),List.getElem?_append_left hx]
end
theorem Z40{rows:List Rw}:∀(f p r:Nat),chs rows f p=some r→∃t,t<f∧itJ (jmp rows) t p=some r∧jmp rows r=none
 | 0,p,r,h=>by cases h
 | f+1,p,r,h=>by
  cases e:jmp rows p with
  | none=>rw[Xx e] at h;cases h;exact⟨0,by omega,rfl,e⟩
  | some q=>
   rw[Xw e] at h
   obtain⟨t,h1,h2,h3⟩:=Z40 f q r h
   exact⟨t+1,by omega,by rw[Tj e];exact h2,h3⟩
theorem E3{rows:List Rw}(ok:RwOk rows){p f:Nat}(hp:p<rows.length)(hf:rows.length≤f):chs rows f p=chs rows rows.length p:=by
 have few:∀t r,itJ (jmp rows) t p=some r→jmp rows r=none→t<rows.length:=fun t r h1 h2=>Zk8 (N:=rows.length) (fun a b _ hab=>Jx ok hab) hp h1 h2
 cases e:chs rows f p with
 | some r=>
  obtain⟨t,_,h2,h3⟩:=Z40 _ _ _ e
  exact(Fs h3 t p _ h2 (few t r h2 h3)).symm
 | none=>
  cases e2:chs rows rows.length p with
  | none=>rfl
  | some r=>
   obtain⟨t,h1,h2,h3⟩:=Z40 _ _ _ e2
   rw[Fs h3 t p f h2 (by omega)] at e
   cases e
noncomputable def ahd(g:Nat)(rows:List Rw):List Rw:= .jump 0 g::rows
section
variable{rows:List Rw}{g0:Nat}
theorem Z33{g:Nat}(h:g≠0):Vp (ahd g0 rows) g=Vp rows g+1:=by
 unfold Vp ahd
 have e:((Rw.jump 0 g0).num==g)=false:=beq_eq_false_iff_ne.mpr (Ne.symm h)
 rw[List.map_cons,List.idxOf_cons,e]
 rfl
theorem Z28(hz:∀r∈rows,0<r.num){g:Nat}(h:g∈rows.map Rw.num):g≠0:=by
 obtain⟨r,hr,rfl⟩:=List.mem_map.mp h
 have:=hz r hr
 omega
theorem Zl0(ok:RwOk rows)(hz:∀r∈rows,0<r.num)(p:Nat):jmp (ahd g0 rows) (p+1)=(jmp rows p).map (·+1):=by
 unfold jmp
 rw[show(ahd g0 rows)[p+1]?=rows[p]? from rfl]
 cases e:rows[p]? with
 | none=>rfl
 | some r=>
  cases r with
  | jump k g=>dsimp only;rw[Z33 (Z28 hz (ok.goal _ (List.mem_of_getElem? e) g rfl))];rfl
  | _=>rfl
theorem Zl6(ok:RwOk rows)(hz:∀r∈rows,0<r.num):∀f p,chs (ahd g0 rows) f (p+1)=(chs rows f p).map (·+1)
 | 0,p=>rfl
 | f+1,p=>by
  have j:=Zl0 (g0:=g0) ok hz p
  cases e:jmp rows p with
  | none=>rw[e] at j;rw[Xx e,Xx j];rfl
  | some q=>rw[e] at j;rw[Xw e,Xw j];exact Zl6 ok hz f q
theorem Zs9(ok:RwOk rows)(hz:∀r∈rows,0<r.num){p:Nat}(hp:p<rows.length):chs (ahd g0 rows) ((ahd g0 rows).length+1) (p+1)=(chs rows (rows.length+1) p).map (·+1):=by
 rw[Zl6 ok hz,E3 ok hp (show rows.length≤(ahd g0 rows).length+1 by unfold ahd;rw[List.length_cons];omega),E3 ok hp (show rows.length≤rows.length+1 by omega)]
theorem Y12(f:Nat→Nat)(kv:List (Key×D))(n:Nd):stp kv (n.to f)=(stp kv n).map fun s=>(s.1,s.2.1,f s.2.2):=by
 cases n with
 | sum x a sg b t=>
  show stp kv (.sum x a sg b (f t))=(stp kv (.sum x a sg b t)).map _
  rw[X5,X5,Option.map_map]
  rfl
 | test a sg b y z=>
  show some _=some _
  dsimp only[Option.some.injEq]
  split<;>rfl
 | fin=>rfl
 | spin=>rfl
theorem Z93(ok:RwOk rows)(hz:∀r∈rows,0<r.num){p:Nat}{r:Rw}(hr:rows[p]?=some r):(nds0 (ahd g0 rows))[p+1]?=some ((r.node rows (fun p=>p) p).to (·+1)):=by
 have h:(nds0 (ahd g0 rows))[p+1]?=some (r.node (ahd g0 rows) (fun p=>p) (p+1)):=Za (L:=fun p=>p) (show(ahd g0 rows)[p+1]?=some r from hr)
 rw[h]
 cases r with
 | test k a sg b g=>
  show some (Nd.test a sg b (Vp (ahd g0 rows) g) (p+1+1))=some (Nd.test a sg b (Vp rows g+1) (p+1+1))
  rw[Z33 (Z28 hz (ok.goal _ (List.mem_of_getElem? hr) g rfl))]
 | _=>rfl
theorem Y45(ok:RwOk rows)(hz:∀r∈rows,0<r.num):∀(k:Nat) (c:Option Nat) (kv:List (Key×D)),Vld rows c→lawC (ahd g0 rows) k (c.map (·+1)) kv=lawC rows k c kv:=by
 intro k
 induction k with
 | zero=>
  intro c kv v
  cases c with
  | none=>rw[Option.map_none,Zp,Zp]
  | some p=>
   obtain⟨r,hr⟩:∃r,rows[p]?=some r:=⟨_,List.getElem?_eq_getElem (v p rfl).1⟩
   rw[Option.map_some,Ym (Z93 ok hz hr) (.inr rfl),Ym (Za (L:=fun p=>p) hr) (.inr rfl)]
   cases r<;>rfl
 | succ k ih=>
  intro c kv v
  cases c with
  | none=>rw[Option.map_none,Zp,Zp]
  | some p=>
   obtain⟨r,hr⟩:∃r,rows[p]?=some r:=⟨_,List.getElem?_eq_getElem (v p rfl).1⟩
   have hn:(nds0 rows)[p]?=some _:=Za (L:=fun p=>p) hr
   have hn':=Z93 (g0:=g0) ok hz hr
   have et:=Y12 (·+1) kv (r.node rows (fun p=>p) p)
   rw[Option.map_some]
   cases es:stp kv (r.node rows (fun p=>p) p) with
   | some s=>
    rw[es] at et
    have hs:=J1 ok hr es
    rw[W3 hn es,W3 hn' et]
    dsimp only
    rw[Zs9 ok hz hs,ih _ _ (Vt ok hs)]
   | none=>
    rw[es] at et
    cases g:(r.node rows (fun p=>p) p).goes with
    | true=>rw[Wi hn g es,Wi hn' (by cases r<;>first | rfl | cases g) et]
    | false=>
     rw[Ym hn (.inl g),Ym hn' (.inl (by cases r<;>first | rfl | cases g))]
     cases r<;>rfl
theorem Zq2(ok:RwOk rows){p:Nat}{r:Rw}(hr:rows[p]?=some r):Vp rows r.num=p:=by
 have hm:r.num∈rows.map Rw.num:=List.mem_map.mpr ⟨r,List.mem_of_getElem? hr,rfl⟩
 have h1:=List.idxOf_lt_length_of_mem hm
 have h2:=List.getElem_idxOf h1
 obtain⟨hp,e⟩:=List.getElem?_eq_some_iff.mp hr
 refine(List.getElem_inj (i:=Vp rows r.num) (j:=p) (h₀:=h1) (h₁:=by rw[List.length_map];exact hp) ok.nd).mp ?_
 rw[List.getElem_map,e]
 exact h2
theorem Zr2(ok:RwOk rows)(hz:∀r∈rows,0<r.num){p:Nat}{r:Rw}(hr:rows[p]?=some r)(hj:jmp rows p=none)(j:Nat)(kv:List (Key×D)):lawR (ahd r.num rows) j kv=lawC rows j (some p) kv:=by
 obtain⟨hp,_⟩:=List.getElem?_eq_some_iff.mp hr
 have h0:jmp (ahd r.num rows) 0=some (p+1):=by
  show some (Vp (ahd r.num rows) r.num)=_
  rw[Z33 (by have:=hz r (List.mem_of_getElem? hr);omega),Zq2 ok hr]
 have h1:jmp (ahd r.num rows) (p+1)=none:=by rw[Zl0 ok hz,hj];rfl
 unfold lawR
 rw[Xw h0,show(ahd r.num rows).length=rows.length+1 from rfl,Xx h1]
 exact Y45 ok hz j (some p) kv fun q h=>by cases h;exact⟨hp,hj⟩
theorem Y19(ok:RwOk rows)(hz:∀r∈rows,0<r.num)(h61:rows.length≤61)(hg:g0∈rows.map Rw.num):RwOk (ahd g0 rows) where
 pos:=Nat.zero_lt_succ _
 small:=by show rows.length+1≤2000;omega
 nd:=by
  show(0::rows.map Rw.num).Nodup
  exact List.nodup_cons.mpr ⟨fun h=>Z28 hz h rfl,ok.nd⟩
 goal:=fun r hr g hg'=>by
  show g∈0::rows.map Rw.num
  rcases List.mem_cons.mp hr with rfl | hr
  ·cases hg';exact List.mem_cons_of_mem _ hg
  ·exact List.mem_cons_of_mem _ (ok.goal r hr g hg')
 last:=fun p r hp hgo=>by
  show p+1<rows.length+1
  match p,hp with
  | 0,hp=>cases hp;cases hgo
  | p+1,hp=>have:=ok.last p r hp hgo;omega
theorem Y37(ok:RwOk rows)(rb:∀r∈rows,RB r):∀(k:Nat) (c:Option Nat) (kv:List (Key×D)) (n:Nat),Vld rows c→64≤n→MI n kv→MI (n+k) (lawC rows k c kv).2.2:=by
 intro k
 induction k with
 | zero=>
  intro c kv n v hn h
  cases c with
  | none=>rw[Zp];exact h
  | some p=>
   obtain⟨r,hr⟩:∃r,rows[p]?=some r:=⟨_,List.getElem?_eq_getElem (v p rfl).1⟩
   rw[Ym (Za (L:=fun p=>p) hr) (.inr rfl)];exact h
 | succ k ih=>
  intro c kv n v hn h
  cases c with
  | none=>rw[Zp];exact h.mono (by omega)
  | some p=>
   obtain⟨r,hr⟩:∃r,rows[p]?=some r:=⟨_,List.getElem?_eq_getElem (v p rfl).1⟩
   have hN:(nds0 rows)[p]?=some _:=Za (L:=fun p=>p) hr
   have hb:=(rb r (List.mem_of_getElem? hr)).1
   cases es:stp kv (r.node rows (fun p=>p) p) with
   | some s=>
    obtain⟨mi',_,_⟩:=Qe (n:=n) h hn (show NB (r.node rows (fun p=>p) p) by cases r<;>exact hb) es
    rw[W3 hN es]
    exact(ih _ _ _ (Vt ok (J1 ok hr es)) (by omega) mi').mono (by omega)
   | none=>
    cases g:(r.node rows (fun p=>p) p).goes with
    | true=>rw[Wi hN g es];exact h.mono (by omega)
    | false=>rw[Ym hN (.inl g)];exact h.mono (by omega)
end
theorem Y11{M:Z1}{nm r:Nat}{l:List Str}(hl:l.length=4)(h:Zg M nm=some (l.map D.str))(hd:Dr M r):nm≠r:=by
 rintro rfl
 obtain⟨l',h'⟩:=hd
 rw[Z3 h'] at h
 match l,l',h with
 | [],_,_=>cases hl
 | _::_,[],h=>cases h
 | _::_,_::_,h=>cases h
section
variable{h a:Nat}{M M':Z1}
theorem Kh.L(k:Kh h M M')(hx:a≠h){xs:List D}(e:Zg M a=some xs):Zg M' a=some xs:=by
 have:=Zy6 e
 unfold Zg at e ⊢
 rw[k.2 a this hx];exact e
theorem Kh.W(k:Kh h M M')(hx:a≠h){xs:List D}(e:Zi M a=some xs):Zi M' a=some xs:=by
 have:=Nk e
 unfold Zi at e ⊢
 rw[k.2 a this hx];exact e
theorem Kh.D(k:Kh h M M')(hx:a≠h){xs:List (Key×D)}(e:Zd M a=some xs):Zd M' a=some xs:=by
 have:=X4 e
 unfold Zd at e ⊢
 rw[k.2 a this hx];exact e
end
section
variable{K:PySem.W.Frag}
theorem Z56{Γ G}(g21:Γ[21]?=some (Y2 2))(g22:Γ[22]?=some W8)(g30:Γ[30]?=some Q7){M:Z1}{Q:DK}(q:∀M',Q (.bl true) M'){fr fh lr lh dr dh first thn:Nat}{A F L:List D×Str×List (Key×D)}{w:Str}{d0 d1 d2 d5 d6 d8 d9 d11:Option D}
  (hF:F=(A.1++L.1,L.2)) (hfr:Zi M fr=some F.1) (hfh:Zd M fh=some F.2.2) (hlr:Zi M lr=some L.1) (hlh:Zd M lh=some L.2.2) (hdr:Zi M dr=some A.1) (n1:F.1.length≤first+thn) (n2:L.1.length≤thn) (hm:first+thn≤1000) (dd:∀d∈F.1,Dd d) (ki:KI F.2.2) (hne:fh≠lh):
  tss ⟨K,Γ,G⟩ noX G8 {nx:=fun _ M=>Q .non M,rt:=Q} [d0,d1,d2,some (.int (first:Nat)),some (.int (thn:Nat)),d5,d6,some (.tup [.ref dr,.str w,.ref dh]),d8,d9,some (.tup [.ref fr,.str F.2.1,.ref fh]),d11,some (.tup [.ref lr,.str L.2.1,.ref lh])] M:=by
 have e1:F.1=A.1++L.1:=by rw[hF]
 have e2:F.2=L.2:=by rw[hF]
 simp only[G8]
 walk_at "ev"
 rw[show((first:Int)+(thn:Int))=((first+thn:Nat):Int) by omega]
 simp only[g30]
 refine⟨fr,fh,first+thn,_,_,_,rfl,hfr,hfh,n1,?_⟩
 try walk_at "ev"
 try simp only[g30]
 refine⟨lr,lh,thn,_,_,_,rfl,hlr,hlh,n2,?_⟩
 try walk_at "ev"
 try refine Yc ?_
 simp only[Za8]
 walk_at "ev"
 refine⟨_,rfl,_,rfl,_,rfl,?_⟩
 try walk_at "ev"
 refine⟨_,_,hdr,hlr,by rw[←List.length_append,←e1];exact Z2 (by omega),?_⟩
 try walk_at "ev"
 try simp only[g21]
 refine⟨_,_,rfl,AL.dds (Ze hfr) (by rw[e1];exact Y1 _ _ []) (by omega) dd,?_⟩
 try walk_at "ev"
 refine⟨_,rfl,_,rfl,?_⟩
 try walk_at "ev"
 rw[if_neg (by rw[e2];simp)]
 try walk_at "ev"
 try refine Yc ?_
 simp only[Z91]
 walk_at "ev"
 refine⟨_,rfl,_,rfl,?_⟩
 try walk_at "ev"
 try simp only[g22]
 exact⟨fh,lh,F.2.2,rfl,Y4 hfh,Y4 (by rw[e2];exact hlh),hne,ki,q _⟩
theorem Y91{Γ G}(g12:Γ[12]?=some Y5)(g13:Γ[13]?=some Y3)(g14:Γ[14]?=some Yj)(g15:Γ[15]?=some Yd)(g19:Γ[19]?=some Xc)(g20:Γ[20]?=some Yh)(g21:Γ[21]?=some (Y2 2))(g22:Γ[22]?=some W8)(g28:Γ[28]?=some Qx)(g29:Γ[29]?=some Jr)(g30:Γ[30]?=some Q7):∀ds M Q Z,B1 ds M Q Z→tss ⟨K,Γ,G⟩ noX b_law {nx:=fun _ M=>Q .non M,rt:=Q} (start0 Zj2 ds) M:=by
 rintro ds M Q Z ⟨ns,rfl,rfl,hns,hbits,q⟩
 simp only[b_law,Zj2]
 walk_at "ev"
 refine⟨0,ns,rfl,rfl,hns,fun M1 r hd k1 _=>?_⟩
 clear k1
 try walk_at "ev"
 refine⟨r,rfl,hd,fun x1 M2 ke2=>?_⟩
 try walk_at "ev"
 refine⟨_,rfl,by omega,fun l M3 nm hl4 k3 hnm=>?_⟩
 have hd3:=ke2.dr.kp k3
 have hne:=Y11 hl4 hnm hd3
 clear k3 ke2 hd
 try walk_at "ev"
 refine⟨r,rfl,hd3,fun x2 M4 ke4=>?_⟩
 try walk_at "ev"
 rw[qm (show(0:Int)<60 by decide)]
 obtain⟨first,hf60,ef⟩:∃n:Nat,n<60∧(x2:Int) % 60=(n:Int):=⟨((x2:Int) % 60).toNat,by have:=Int.emod_lt_of_pos (x2:Int) (show(0:Int)<60 by decide);omega,by have:=Int.emod_nonneg (x2:Int) (show(60:Int)≠0 by decide);omega⟩
 rw[ef]
 try walk_at "ev"
 refine⟨r,rfl,ke4.dr,fun x3 M5 ke5=>?_⟩
 try walk_at "ev"
 rw[qm (show(0:Int)<60 by decide)]
 obtain⟨thn,ht0,ht60,et⟩:∃n:Nat,0<n∧n≤60∧1+(x3:Int) % 60=(n:Int):=⟨(1+(x3:Int) % 60).toNat,by have:=Int.emod_nonneg (x3:Int) (show(60:Int)≠0 by decide);omega,by have:=Int.emod_lt_of_pos (x3:Int) (show(0:Int)<60 by decide);omega,by have:=Int.emod_nonneg (x3:Int) (show(60:Int)≠0 by decide);omega⟩
 rw[et]
 have ke:=ke4.trans ke5
 have nms:Nms M5 nm:=⟨l,hl4,ke.L hne hnm⟩
 have hd5:=ke.dr
 clear ke ke4 ke5 hnm hl4 hd3
 try walk_at "ev"
 refine⟨r,nm,rfl,hd5,hne,nms,fun kvs M6 mm mi ki hk4 ke6 hmm hmm0=>?_⟩
 have hmr:mm≠r:=by have:=hd5.lt;omega
 try walk_at "ev"
 refine⟨r,nm,rfl,ke6.dr,hne,nms.ke ke6 hne,fun rows M7 rr ok hz h61 rb ke7 hrr hrr0=>?_⟩
 have hmm7:=ke7.D hmr hmm
 clear ke7 ke6 hmm hmm0 hrr0 nms hd5
 try walk_at "ev"
 refine⟨rr,mm,first,rows,kvs,rfl,Z3 hrr,ok,rb,hmm7,mi.mono (by decide),by omega,by omega,fun M8 dr dh k8 hdr hdh _ _=>?_⟩
 have hrr8:=k8.W hrr
 have hmm8:=k8.D hmm7
 clear k8 hrr hmm7
 have T:=Tu rows first ki
 have R0:lawR rows first kvs=lawC rows first (chs rows (rows.length+1) 0) kvs:=rfl
 have F0:=Zu3 ok first _ kvs (Vt ok (f:=rows.length+1) ok.pos)
 have MI0:=Y37 ok rb first _ kvs 64 (Vt ok (f:=rows.length+1) ok.pos) (Nat.le_refl _) mi
 rw[←R0] at MI0
 obtain⟨wd,vl,sk,mo⟩:=F0
 rw[←R0] at wd sk mo
 try walk_at "ev"
 try simp only[g30]
 refine⟨dr,dh,first,_,_,_,rfl,hdr,hdh,T.few,?_⟩
 try walk_at "ev"
 try refine Yc ?_
 simp only[Z45]
 walk_at "ev"
 refine .inl ⟨kvs,hmm8,?_⟩
 try walk_at "ev"
 refine⟨_,rfl,?_⟩
 try walk_at "ev"
 have l1:=By (Z3 hrr8)
 have l2:=X4 hmm8
 have l3:=By (Z3 hdr)
 have l4:=X4 hdh
 try simp only[g28]
 refine⟨rr,M8.length,dr,first,rows,kvs,rfl,Zn (Z3 hrr8),Yo _ _ _,Ze hdr,ok,rb,mi,by omega,by omega,fun M9 kh hnow=>?_⟩
 have hrr9:=kh.W (by omega) (Ze hrr8)
 have hmm9:=kh.D (by omega) (Y4 hmm8)
 have hdr9:=kh.W (by omega) (Ze hdr)
 have hdh9:=kh.D (by omega) (Y4 hdh)
 have hln9:M8.length<M9.length:=X4 hnow
 clear kh hrr8 hmm8 hdr hdh
 generalize M8.length=now at l1 l2 l3 l4 hnow hln9 ⊢
 try walk_at "ev"
 refine⟨_,rfl,?_⟩
 try walk_at "ev"
 try simp only[g22]
 refine⟨dh,now,_,rfl,hdh9,hnow,by omega,T.ki,?_⟩
 try walk_at "ev"
 try refine Yc ?_
 simp only[Z57]
 walk_at "ev"
 refine⟨_,rfl,_,rfl,Yq (Z3 hdr9) ?_⟩
 try walk_at "ev"
 try simp only[g29]
 rw[show decide (((lawR rows first kvs).1.length:Int)=(first:Int))=decide ((lawR rows first kvs).1.length=first) from decide_eq_decide.mpr (by omega)]
 refine⟨rr,now,64+first,rows,_,_,_,rfl,Z3 hrr9,hnow,MI0,vl,sk,fun M10 k10=>?_⟩
 rw[←wd]
 generalize plc rows first (chs rows (rows.length+1) 0) kvs=C at vl mo ⊢
 have hrr10:=k10.W hrr9
 have hmm10:=k10.D hmm9
 have hdr10:=k10.W hdr9
 have hnow10:=k10.D hnow
 have hln10:now<M10.length:=X4 hnow10
 clear k10 hrr9 hmm9 hdr9 hdh9 hnow wd sk
 try walk_at "ev"
 try refine Yc ?_
 simp only[Z07]
 walk_at "ev"
 rw[show((first:Int)+(thn:Int))=((first+thn:Nat):Int) by omega]
 try simp only[g12]
 refine⟨rr,mm,first+thn,rows,kvs,rfl,Z3 hrr10,ok,rb,hmm10,mi.mono (by decide),by omega,by omega,fun M11 fr fh k11 hfr hfh b1 b2=>?_⟩
 have TF:=Tu rows (first+thn) ki
 have more:lawR rows (first+thn) kvs=_:=mo thn ht0
 have hrr11:=k11.W hrr10
 have hmm11:=k11.D hmm10
 have hdr11:=k11.W hdr10
 have hnow11:=k11.D hnow10
 have c1:=X4 hnow11
 have c2:=X4 hfh
 have c3:=Nk hfr
 have nowl:=T.len
 clear k11 hrr10 hmm10 hdr10 hnow10
 cases C with
 | none=>
  simp only[cI]
  walk_at "ev"
  try refine Yc ?_
  simp only[Gc]
  walk_at "ev"
  try simp only[g12]
  refine⟨rr,now,thn,rows,_,rfl,Z3 hrr11,ok,rb,hnow11,MI0.mono (by omega),by omega,by omega,fun M12 lr lh k12 _ _ _ _=>?_⟩
  try walk_at "ev"
  refine⟨Z2 (by decide),Z2 (by decide),?_⟩
  try refine Yc ?_
  rw[Zp] at more
  exact Z56 g21 g22 g30 q (A:=lawR rows first kvs) (L:=([],"on",(lawR rows first kvs).2.2)) more (Ze (k12.W hfr)) (Y4 (k12.D hfh)) (Y1 _ _ []) (Y4 (k12.D hnow11)) (Ze (k12.W hdr11)) TF.few (Nat.zero_le _) (by omega) TF.dd TF.ki (by omega)
 | some p=>
  obtain⟨hp,hj⟩:=vl p rfl
  obtain⟨rw_,hr⟩:∃r,rows[p]?=some r:=⟨_,List.getElem?_eq_getElem hp⟩
  simp only[cI]
  walk_at "ev"
  rw[if_pos (by omega)]
  refine ix_l (Z3 hrr11) (W4 hr) ?_
  have e0:∀(M:Z1) (F:D→Prop),F (.int (rw_.num:Nat))→ixD M rw_.d (.int 0) F:=fun M F f=>by cases rw_<;>exact⟨_,rfl,f⟩
  refine e0 _ _ ⟨Z2 (by decide),Z2 (by decide),_,_,Y1 _ _ [],Ze hrr11,by rw[List.length_map,List.length_singleton];exact Z2 (by omega),Yc ?_⟩
  rw[show(M11++[Cell.lst [D.tup [D.int 0,D.str "jump",D.int (rw_.num:Nat)]]]:Z1).length=M11.length+1 by simp,List.append_assoc,show([D.tup [D.int 0,D.str "jump",D.int (rw_.num:Nat)]]++rows.map Rw.d:List D)=(ahd rw_.num rows).map Rw.d from rfl]
  have hah:Zi (M11++([Cell.lst [D.tup [D.int 0,D.str "jump",D.int (rw_.num:Nat)]]]++[Cell.lst ((ahd rw_.num rows).map Rw.d)])) (M11.length+1)=some ((ahd rw_.num rows).map Rw.d):=by rw[Tz];rfl
  generalize [Cell.lst [D.tup [D.int 0,D.str "jump",D.int (rw_.num:Nat)]]]++[Cell.lst ((ahd rw_.num rows).map Rw.d)]=X at hah ⊢
  try refine Yc ?_
  simp only[Gc]
  walk_at "ev"
  try simp only[g12]
  have hg:rw_.num∈rows.map Rw.num:=List.mem_map.mpr ⟨_,List.mem_of_getElem? hr,rfl⟩
  refine⟨M11.length+1,now,thn,ahd rw_.num rows,_,rfl,Z3 hah,Y19 ok hz h61 hg,fun r' hr'=>?_,Y4 hnow11,MI0.mono (by omega),by omega,by omega,fun M12 lr lh k12 hlr hlh b3 b4=>?_⟩
  ·rcases List.mem_cons.mp hr' with rfl | hr'
   ·exact⟨trivial,trivial⟩
   ·exact rb _ hr'
  have TL:=Tu (ahd rw_.num rows) thn T.ki
  rw[List.length_append] at b3 b4
  rw[←Zr2 ok hz hr hj] at more
  try walk_at "ev"
  rw[if_neg (by omega)]
  try refine Yc ?_
  exact Z56 g21 g22 g30 q (A:=lawR rows first kvs) (L:=lawR (ahd rw_.num rows) thn (lawR rows first kvs).2.2) more (k12.W (Ze hfr)) (k12.D (Y4 hfh)) hlr hlh (k12.W (Ze hdr11)) TF.few TL.few (by omega) TF.dd TF.ki (by omega)
end
set_option maxHeartbeats 0 in
theorem Y52{P:Program}{w:World}{K:PySem.W.Frag}{mg:Str→Option Value}{base:Heap}{t:Adr}(T:Tx K mg t):FnOk P w K mg base (CX1 P w) 36 t.a_law t.d_law ["_law_script"] (spF K B1):=by
 have PZ:Prg P w K mg base ⟨K,[bot,bot,bot,bot,bot,bot,bot,bot,bot,bot,bot,bot,bot,bot,bot,bot,bot,bot,bot,bot,bot,bot,bot,bot,bot,bot,bot,bot,bot,bot,bot,bot,bot],[.cls t.a_JumpError,.cls t.a_ByNought]⟩ FN GN BN 0:=Prg.zero (ents T) rfl (by intro sp h;simp only[List.mem_cons,List.not_mem_nil,or_false,or_self] at h;exact h) (fun g x d h1 h2=>match g,h1,h2 with | 0,h1,h2=>by cases h1;cases h2;exact⟨.ref _,.ref _,T.g_JumpError,rfl,fun w _=>Qv.mpr rfl⟩ | 1,h1,h2=>by cases h1;cases h2;exact⟨.ref _,.ref _,T.g_ByNought,rfl,fun w _=>Qv.mpr rfl⟩ | n+2,h1,h2=>by cases h2) (blts T)
 have P0:=PZ.up (show 0≤2 by decide)
 have F0:=fn1 P0 (PrgR.one rfl T.mk_ByNought (T.i_ok _ _ _ _) (by decide) T.i_b1 T.i_b0 T.set_ByNought) T.F_quotient G7 Br (sp:=Zk t.a_ByNought qdiv) (by rintro _ _ _ _ ⟨_,_,rfl,_⟩;rfl) Cw
 have P1:Prg P w K mg base ⟨K,[Zk t.a_ByNought qdiv,bot,bot,bot,bot,bot,bot,bot,bot,bot,bot,bot,bot,bot,bot,bot,bot,bot,bot,bot,bot,bot,bot,bot,bot,bot,bot,bot,bot,bot,bot,bot,bot],[.cls t.a_JumpError,.cls t.a_ByNought]⟩ FN GN BN 3:=P0.add 0 (x:="quotient") rfl F0 (Nat.le_refl _) (Nat.le_succ _) T.g_quotient T.k_quotient T.b_quotient
 have F1:=fn1 P1 (PrgR.one rfl T.mk_ByNought (T.i_ok _ _ _ _) (by decide) T.i_b1 T.i_b0 T.set_ByNought) T.F_rest Zr1 Y48 (sp:=Zk t.a_ByNought qmod) (by rintro _ _ _ _ ⟨_,_,rfl,_⟩;rfl) Y38
 have P2:Prg P w K mg base ⟨K,[Zk t.a_ByNought qdiv,Zk t.a_ByNought qmod,bot,bot,bot,bot,bot,bot,bot,bot,bot,bot,bot,bot,bot,bot,bot,bot,bot,bot,bot,bot,bot,bot,bot,bot,bot,bot,bot,bot,bot,bot,bot],[.cls t.a_JumpError,.cls t.a_ByNought]⟩ FN GN BN 4:=P1.add 1 (x:="rest") rfl F1 (Nat.le_refl _) (Nat.le_succ _) T.g_rest T.k_rest T.b_rest
 have F2:=fn1 P2 PrgR.none T.F_made Zp9 Y08 (sp:=Zt t.a_ByNought) (by rintro _ _ _ _ ⟨_,_,_,rfl,_⟩;rfl) (Y29 rfl rfl)
 have P3:Prg P w K mg base ⟨K,[Zk t.a_ByNought qdiv,Zk t.a_ByNought qmod,Zt t.a_ByNought,bot,bot,bot,bot,bot,bot,bot,bot,bot,bot,bot,bot,bot,bot,bot,bot,bot,bot,bot,bot,bot,bot,bot,bot,bot,bot,bot,bot,bot,bot],[.cls t.a_JumpError,.cls t.a_ByNought]⟩ FN GN BN 5:=P2.add 2 (x:="made") rfl F2 (Nat.le_refl _) (Nat.le_succ _) T.g_made T.k_made T.b_made
 have F3:=fn0 P3 T.F_holds Zj8 Zt6 (sp:=Zm) (by rintro _ _ _ _ ⟨_,_,_,rfl,_⟩;rfl) Zn7
 have P4:Prg P w K mg base ⟨K,[Zk t.a_ByNought qdiv,Zk t.a_ByNought qmod,Zt t.a_ByNought,Zm,bot,bot,bot,bot,bot,bot,bot,bot,bot,bot,bot,bot,bot,bot,bot,bot,bot,bot,bot,bot,bot,bot,bot,bot,bot,bot,bot,bot,bot],[.cls t.a_JumpError,.cls t.a_ByNought]⟩ FN GN BN 6:=P3.add 3 (x:="holds") rfl F3 (Nat.le_refl _) (Nat.le_succ _) T.g_holds T.k_holds T.b_holds
 have F4:=fn0 P4 T.F_worth Zb0 Zu8 (sp:=Z8) (by rintro _ _ _ _ ⟨_,_,_,_,rfl,_⟩;rfl) Zp2
 have P5:Prg P w K mg base ⟨K,[Zk t.a_ByNought qdiv,Zk t.a_ByNought qmod,Zt t.a_ByNought,Zm,Z8,bot,bot,bot,bot,bot,bot,bot,bot,bot,bot,bot,bot,bot,bot,bot,bot,bot,bot,bot,bot,bot,bot,bot,bot,bot,bot,bot,bot],[.cls t.a_JumpError,.cls t.a_ByNought]⟩ FN GN BN 7:=P4.add 4 (x:="worth") rfl F4 (Nat.le_refl _) (Nat.le_succ _) T.g_worth T.k_worth T.b_worth
 have F5:=fn1 P5 PrgR.none T.F_deed_of_sum Qn O6 (sp:=Z6 t.a_ByNought) (by rintro _ _ _ _ ⟨_,_,_,_,_,_,_,_,rfl,_⟩;rfl) (Oo rfl rfl)
 have P6:Prg P w K mg base ⟨K,[Zk t.a_ByNought qdiv,Zk t.a_ByNought qmod,Zt t.a_ByNought,Zm,Z8,Z6 t.a_ByNought,bot,bot,bot,bot,bot,bot,bot,bot,bot,bot,bot,bot,bot,bot,bot,bot,bot,bot,bot,bot,bot,bot,bot,bot,bot,bot,bot],[.cls t.a_JumpError,.cls t.a_ByNought]⟩ FN GN BN 8:=P5.add 5 (x:="deed_of_sum") rfl F5 (Nat.le_refl _) (Nat.le_succ _) T.g_deed_of_sum T.k_deed_of_sum T.b_deed_of_sum
 have F6:=fn0 P6 T.F_deed_of_test Rt Qs (sp:=Z5) (by rintro _ _ _ _ ⟨_,_,_,_,_,_,rfl,_⟩;rfl) (Qr rfl rfl)
 have P7:Prg P w K mg base ⟨K,[Zk t.a_ByNought qdiv,Zk t.a_ByNought qmod,Zt t.a_ByNought,Zm,Z8,Z6 t.a_ByNought,Z5,bot,bot,bot,bot,bot,bot,bot,bot,bot,bot,bot,bot,bot,bot,bot,bot,bot,bot,bot,bot,bot,bot,bot,bot,bot,bot],[.cls t.a_JumpError,.cls t.a_ByNought]⟩ FN GN BN 9:=P6.add 6 (x:="deed_of_test") rfl F6 (Nat.le_refl _) (Nat.le_succ _) T.g_deed_of_test T.k_deed_of_test T.b_deed_of_test
 have F7:=fn0 P7 T.F_behind Z17 Zd3 (sp:=Zh) (by rintro _ _ _ _ ⟨_,_,_,rfl,_⟩;rfl) Ze9
 have P8:Prg P w K mg base ⟨K,[Zk t.a_ByNought qdiv,Zk t.a_ByNought qmod,Zt t.a_ByNought,Zm,Z8,Z6 t.a_ByNought,Z5,Zh,bot,bot,bot,bot,bot,bot,bot,bot,bot,bot,bot,bot,bot,bot,bot,bot,bot,bot,bot,bot,bot,bot,bot,bot,bot],[.cls t.a_JumpError,.cls t.a_ByNought]⟩ FN GN BN 10:=P7.add 7 (x:="behind") rfl F7 (Nat.le_refl _) (Nat.le_succ _) T.g_behind T.k_behind T.b_behind
 have F8:=fn1 P8 PrgR.none T.F_deed_of Cg Z52 (sp:=Zj t.a_ByNought) (by rintro _ _ _ _ ⟨_,_,_,_,rfl,_⟩;rfl) (Z58 rfl rfl)
 have P9:Prg P w K mg base ⟨K,[Zk t.a_ByNought qdiv,Zk t.a_ByNought qmod,Zt t.a_ByNought,Zm,Z8,Z6 t.a_ByNought,Z5,Zh,Zj t.a_ByNought,bot,bot,bot,bot,bot,bot,bot,bot,bot,bot,bot,bot,bot,bot,bot,bot,bot,bot,bot,bot,bot,bot,bot,bot],[.cls t.a_JumpError,.cls t.a_ByNought]⟩ FN GN BN 11:=P8.add 8 (x:="deed_of") rfl F8 (Nat.le_refl _) (Nat.le_succ _) T.g_deed_of T.k_deed_of T.b_deed_of
 have F9:=fn0 P9 T.F_run_from Ge B9 (sp:=Zb) (by rintro _ _ _ _ ⟨_,_,_,_,_,_,rfl,_⟩;rfl) (Bt T.co_ByNought rfl rfl)
 have P10:Prg P w K mg base ⟨K,[Zk t.a_ByNought qdiv,Zk t.a_ByNought qmod,Zt t.a_ByNought,Zm,Z8,Z6 t.a_ByNought,Z5,Zh,Zj t.a_ByNought,Zb,bot,bot,bot,bot,bot,bot,bot,bot,bot,bot,bot,bot,bot,bot,bot,bot,bot,bot,bot,bot,bot,bot,bot],[.cls t.a_JumpError,.cls t.a_ByNought]⟩ FN GN BN 12:=P9.add 9 (x:="run_from") rfl F9 (Nat.le_refl _) (Nat.le_succ _) T.g_run_from T.k_run_from T.b_run_from
 have F10:=fn0 P10 T.F_landings Gr Ct (sp:=Z7) (by rintro _ _ _ _ ⟨_,_,_,_,_,rfl,_⟩;rfl) Bg
 have P11:Prg P w K mg base ⟨K,[Zk t.a_ByNought qdiv,Zk t.a_ByNought qmod,Zt t.a_ByNought,Zm,Z8,Z6 t.a_ByNought,Z5,Zh,Zj t.a_ByNought,Zb,Z7,bot,bot,bot,bot,bot,bot,bot,bot,bot,bot,bot,bot,bot,bot,bot,bot,bot,bot,bot,bot,bot,bot],[.cls t.a_JumpError,.cls t.a_ByNought]⟩ FN GN BN 13:=P10.add 10 (x:="landings") rfl F10 (Nat.le_refl _) (Nat.le_succ _) T.g_landings T.k_landings T.b_landings
 have F11:=fn0 P11 T.F_linked Z75 Zh8 (sp:=Zo) (by rintro _ _ _ _ ⟨_,_,rfl,_⟩;rfl) (Zj5 rfl)
 have P12:Prg P w K mg base ⟨K,[Zk t.a_ByNought qdiv,Zk t.a_ByNought qmod,Zt t.a_ByNought,Zm,Z8,Z6 t.a_ByNought,Z5,Zh,Zj t.a_ByNought,Zb,Z7,Zo,bot,bot,bot,bot,bot,bot,bot,bot,bot,bot,bot,bot,bot,bot,bot,bot,bot,bot,bot,bot,bot],[.cls t.a_JumpError,.cls t.a_ByNought]⟩ FN GN BN 14:=P11.add 11 (x:="linked") rfl F11 (Nat.le_refl _) (Nat.le_succ _) T.g_linked T.k_linked T.b_linked
 have F12:=fn0 P12 T.F_run Y40 Y81 (sp:=Y5) (by rintro _ _ _ _ ⟨_,_,_,_,_,rfl,_⟩;rfl) (Y78 rfl rfl)
 have P13:Prg P w K mg base ⟨K,[Zk t.a_ByNought qdiv,Zk t.a_ByNought qmod,Zt t.a_ByNought,Zm,Z8,Z6 t.a_ByNought,Z5,Zh,Zj t.a_ByNought,Zb,Z7,Zo,Y5,bot,bot,bot,bot,bot,bot,bot,bot,bot,bot,bot,bot,bot,bot,bot,bot,bot,bot,bot,bot],[.cls t.a_JumpError,.cls t.a_ByNought]⟩ FN GN BN 15:=P12.add 12 (x:="run") rfl F12 (Nat.le_refl _) (Nat.le_succ _) T.g_run T.k_run T.b_run
 obtain⟨tk12,eb12⟩:=T.e_run
 have P13d:Prg P w K mg base ⟨K,[Zk t.a_ByNought qdiv,Zk t.a_ByNought qmod,Zt t.a_ByNought,Zm,Z8,Z6 t.a_ByNought,Z5,Zh,Zj t.a_ByNought,Zb,Z7,Zo,Y5,bot,bot,bot,bot,bot,bot,bot,bot,bot,bot,bot,bot,bot,bot,bot,bot,bot,bot,bot,(fun as M Q Z=>Y5 (as++[.int 100]) M Q Z)],[.cls t.a_JumpError,.cls t.a_ByNought]⟩ FN GN BN 15:=P13.addD 32 (x:="run") rfl F12 (Nat.le_refl _) (Nat.le_refl _) T.g_run T.k_run eb12 (dD:=[.int 100]) (dvs:=[.int 100]) (.cons ⟨_,rfl⟩ .nil) (fun w _=>RDs.cons (Zc.mpr rfl) (RDs.nil w))
 have F13:=fn0 P13d T.F_Ldraws Z08 Zh0 (sp:=Y3) (by rintro _ _ _ _ ⟨_,_,rfl,_⟩;rfl) Zh4
 have P14:Prg P w K mg base ⟨K,[Zk t.a_ByNought qdiv,Zk t.a_ByNought qmod,Zt t.a_ByNought,Zm,Z8,Z6 t.a_ByNought,Z5,Zh,Zj t.a_ByNought,Zb,Z7,Zo,Y5,Y3,bot,bot,bot,bot,bot,bot,bot,bot,bot,bot,bot,bot,bot,bot,bot,bot,bot,bot,(fun as M Q Z=>Y5 (as++[.int 100]) M Q Z)],[.cls t.a_JumpError,.cls t.a_ByNought]⟩ FN GN BN 16:=P13d.add 13 (x:="_law_draws") rfl F13 (Nat.le_refl _) (Nat.le_succ _) T.g_Ldraws T.k_Ldraws T.b_Ldraws
 have F14:=fn0 P14 T.F_Lnext Zc8 Zw0 (sp:=Yj) (by rintro _ _ _ _ ⟨_,rfl,_⟩;rfl) Zn9
 have P15:Prg P w K mg base ⟨K,[Zk t.a_ByNought qdiv,Zk t.a_ByNought qmod,Zt t.a_ByNought,Zm,Z8,Z6 t.a_ByNought,Z5,Zh,Zj t.a_ByNought,Zb,Z7,Zo,Y5,Y3,Yj,bot,bot,bot,bot,bot,bot,bot,bot,bot,bot,bot,bot,bot,bot,bot,bot,bot,(fun as M Q Z=>Y5 (as++[.int 100]) M Q Z)],[.cls t.a_JumpError,.cls t.a_ByNought]⟩ FN GN BN 17:=P14.add 14 (x:="_law_next") rfl F14 (Nat.le_refl _) (Nat.le_succ _) T.g_Lnext T.k_Lnext T.b_Lnext
 have F15:=fn0 P15 T.F_Lnames Z90 Zc3 (sp:=Yd) (by rintro _ _ _ _ ⟨_,rfl,_⟩;rfl) Zi3
 have P16:Prg P w K mg base ⟨K,[Zk t.a_ByNought qdiv,Zk t.a_ByNought qmod,Zt t.a_ByNought,Zm,Z8,Z6 t.a_ByNought,Z5,Zh,Zj t.a_ByNought,Zb,Z7,Zo,Y5,Y3,Yj,Yd,bot,bot,bot,bot,bot,bot,bot,bot,bot,bot,bot,bot,bot,bot,bot,bot,(fun as M Q Z=>Y5 (as++[.int 100]) M Q Z)],[.cls t.a_JumpError,.cls t.a_ByNought]⟩ FN GN BN 18:=P15.add 15 (x:="_law_names") rfl F15 (Nat.le_refl _) (Nat.le_succ _) T.g_Lnames T.k_Lnames T.b_Lnames
 have F16:=fn0 P16 T.F_Lgreat Z12 Zf9 (sp:=Yb) (by rintro _ _ _ _ ⟨_,rfl,_⟩;rfl) (Zk3 rfl)
 have P17:Prg P w K mg base ⟨K,[Zk t.a_ByNought qdiv,Zk t.a_ByNought qmod,Zt t.a_ByNought,Zm,Z8,Z6 t.a_ByNought,Z5,Zh,Zj t.a_ByNought,Zb,Z7,Zo,Y5,Y3,Yj,Yd,Yb,bot,bot,bot,bot,bot,bot,bot,bot,bot,bot,bot,bot,bot,bot,bot,(fun as M Q Z=>Y5 (as++[.int 100]) M Q Z)],[.cls t.a_JumpError,.cls t.a_ByNought]⟩ FN GN BN 19:=P16.add 16 (x:="_law_great") rfl F16 (Nat.le_refl _) (Nat.le_succ _) T.g_Lgreat T.k_Lgreat T.b_Lgreat
 have F17:=fn0 P17 T.F_Loperand Gk B3 (sp:=Zr) (by rintro _ _ _ _ ⟨_,_,rfl,_⟩;rfl) (C4 rfl rfl)
 have P18:Prg P w K mg base ⟨K,[Zk t.a_ByNought qdiv,Zk t.a_ByNought qmod,Zt t.a_ByNought,Zm,Z8,Z6 t.a_ByNought,Z5,Zh,Zj t.a_ByNought,Zb,Z7,Zo,Y5,Y3,Yj,Yd,Yb,Zr,bot,bot,bot,bot,bot,bot,bot,bot,bot,bot,bot,bot,bot,bot,(fun as M Q Z=>Y5 (as++[.int 100]) M Q Z)],[.cls t.a_JumpError,.cls t.a_ByNought]⟩ FN GN BN 20:=P17.add 17 (x:="_law_operand") rfl F17 (Nat.le_refl _) (Nat.le_succ _) T.g_Loperand T.k_Loperand T.b_Loperand
 have F18:=fn0 P18 T.F_Lrow Zu1 Y05 (sp:=Wr) (by rintro _ _ _ _ ⟨_,_,_,_,_,rfl,_⟩;rfl) (Zx4 rfl rfl)
 have P19:Prg P w K mg base ⟨K,[Zk t.a_ByNought qdiv,Zk t.a_ByNought qmod,Zt t.a_ByNought,Zm,Z8,Z6 t.a_ByNought,Z5,Zh,Zj t.a_ByNought,Zb,Z7,Zo,Y5,Y3,Yj,Yd,Yb,Zr,Wr,bot,bot,bot,bot,bot,bot,bot,bot,bot,bot,bot,bot,bot,(fun as M Q Z=>Y5 (as++[.int 100]) M Q Z)],[.cls t.a_JumpError,.cls t.a_ByNought]⟩ FN GN BN 21:=P18.add 18 (x:="_law_row") rfl F18 (Nat.le_refl _) (Nat.le_succ _) T.g_Lrow T.k_Lrow T.b_Lrow
 have F19:=fn0 P19 T.F_Lrows Zj3 Zp3 (sp:=Xc) (by rintro _ _ _ _ ⟨_,_,rfl,_⟩;rfl) (Zv0 rfl rfl)
 have P20:Prg P w K mg base ⟨K,[Zk t.a_ByNought qdiv,Zk t.a_ByNought qmod,Zt t.a_ByNought,Zm,Z8,Z6 t.a_ByNought,Z5,Zh,Zj t.a_ByNought,Zb,Z7,Zo,Y5,Y3,Yj,Yd,Yb,Zr,Wr,Xc,bot,bot,bot,bot,bot,bot,bot,bot,bot,bot,bot,bot,(fun as M Q Z=>Y5 (as++[.int 100]) M Q Z)],[.cls t.a_JumpError,.cls t.a_ByNought]⟩ FN GN BN 22:=P19.add 19 (x:="_law_rows") rfl F19 (Nat.le_refl _) (Nat.le_succ _) T.g_Lrows T.k_Lrows T.b_Lrows
 have F20:=fn0 P20 T.F_Lmemory Cn Z01 (sp:=Yh) (by rintro _ _ _ _ ⟨_,_,rfl,_⟩;rfl) (Z26 rfl rfl)
 have P21:Prg P w K mg base ⟨K,[Zk t.a_ByNought qdiv,Zk t.a_ByNought qmod,Zt t.a_ByNought,Zm,Z8,Z6 t.a_ByNought,Z5,Zh,Zj t.a_ByNought,Zb,Z7,Zo,Y5,Y3,Yj,Yd,Yb,Zr,Wr,Xc,Yh,bot,bot,bot,bot,bot,bot,bot,bot,bot,bot,bot,(fun as M Q Z=>Y5 (as++[.int 100]) M Q Z)],[.cls t.a_JumpError,.cls t.a_ByNought]⟩ FN GN BN 23:=P20.add 20 (x:="_law_memory") rfl F20 (Nat.le_refl _) (Nat.le_succ _) T.g_Lmemory T.k_Lmemory T.b_Lmemory
 have F21_0:=fn0 P21 T.F_Lalike Rh Oc (sp:=(Y2 0)) (by rintro _ _ _ _ ⟨_,_,rfl,_⟩;rfl) Z55
 have P22_0:Prg P w K mg base ⟨K,[Zk t.a_ByNought qdiv,Zk t.a_ByNought qmod,Zt t.a_ByNought,Zm,Z8,Z6 t.a_ByNought,Z5,Zh,Zj t.a_ByNought,Zb,Z7,Zo,Y5,Y3,Yj,Yd,Yb,Zr,Wr,Xc,Yh,(Y2 0),bot,bot,bot,bot,bot,bot,bot,bot,bot,bot,(fun as M Q Z=>Y5 (as++[.int 100]) M Q Z)],[.cls t.a_JumpError,.cls t.a_ByNought]⟩ FN GN BN 24:=P21.add 21 (x:="_law_alike") rfl F21_0 (Nat.le_refl _) (Nat.le_succ _) T.g_Lalike T.k_Lalike T.b_Lalike
 have F21_1:=fn0 P22_0 T.F_Lalike Rh Oc (sp:=(Y2 1)) (by rintro _ _ _ _ ⟨_,_,rfl,_⟩;rfl) (Nw rfl)
 have P22_1:Prg P w K mg base ⟨K,[Zk t.a_ByNought qdiv,Zk t.a_ByNought qmod,Zt t.a_ByNought,Zm,Z8,Z6 t.a_ByNought,Z5,Zh,Zj t.a_ByNought,Zb,Z7,Zo,Y5,Y3,Yj,Yd,Yb,Zr,Wr,Xc,Yh,(Y2 1),bot,bot,bot,bot,bot,bot,bot,bot,bot,bot,(fun as M Q Z=>Y5 (as++[.int 100]) M Q Z)],[.cls t.a_JumpError,.cls t.a_ByNought]⟩ FN GN BN 25:=P22_0.add 21 (x:="_law_alike") rfl F21_1 (Nat.le_refl _) (Nat.le_succ _) T.g_Lalike T.k_Lalike T.b_Lalike
 have F21_2:=fn0 P22_1 T.F_Lalike Rh Oc (sp:=(Y2 2)) (by rintro _ _ _ _ ⟨_,_,rfl,_⟩;rfl) (Nw rfl)
 have P22:Prg P w K mg base ⟨K,[Zk t.a_ByNought qdiv,Zk t.a_ByNought qmod,Zt t.a_ByNought,Zm,Z8,Z6 t.a_ByNought,Z5,Zh,Zj t.a_ByNought,Zb,Z7,Zo,Y5,Y3,Yj,Yd,Yb,Zr,Wr,Xc,Yh,(Y2 2),bot,bot,bot,bot,bot,bot,bot,bot,bot,bot,(fun as M Q Z=>Y5 (as++[.int 100]) M Q Z)],[.cls t.a_JumpError,.cls t.a_ByNought]⟩ FN GN BN 26:=P22_1.add 21 (x:="_law_alike") rfl F21_2 (Nat.le_refl _) (Nat.le_succ _) T.g_Lalike T.k_Lalike T.b_Lalike
 have F22:=fn0 P22 T.F_Lsame_memory Qh Qp (sp:=W8) (by rintro _ _ _ _ ⟨_,_,_,rfl,_⟩;rfl) (Zu9 rfl)
 have P23:Prg P w K mg base ⟨K,[Zk t.a_ByNought qdiv,Zk t.a_ByNought qmod,Zt t.a_ByNought,Zm,Z8,Z6 t.a_ByNought,Z5,Zh,Zj t.a_ByNought,Zb,Z7,Zo,Y5,Y3,Yj,Yd,Yb,Zr,Wr,Xc,Yh,(Y2 2),W8,bot,bot,bot,bot,bot,bot,bot,bot,bot,(fun as M Q Z=>Y5 (as++[.int 100]) M Q Z)],[.cls t.a_JumpError,.cls t.a_ByNought]⟩ FN GN BN 27:=P22.add 22 (x:="_law_same_memory") rfl F22 (Nat.le_refl _) (Nat.le_succ _) T.g_Lsame_memory T.k_Lsame_memory T.b_Lsame_memory
 have F23:=fn0 P23 T.F_Lworth Z23 Ze3 (sp:=Z8) (by rintro _ _ _ _ ⟨_,_,_,_,rfl,_⟩;rfl) Zf7
 have P24:Prg P w K mg base ⟨K,[Zk t.a_ByNought qdiv,Zk t.a_ByNought qmod,Zt t.a_ByNought,Zm,Z8,Z6 t.a_ByNought,Z5,Zh,Zj t.a_ByNought,Zb,Z7,Zo,Y5,Y3,Yj,Yd,Yb,Zr,Wr,Xc,Yh,(Y2 2),W8,Z8,bot,bot,bot,bot,bot,bot,bot,bot,(fun as M Q Z=>Y5 (as++[.int 100]) M Q Z)],[.cls t.a_JumpError,.cls t.a_ByNought]⟩ FN GN BN 28:=P23.add 23 (x:="_law_worth") rfl F23 (Nat.le_refl _) (Nat.le_succ _) T.g_Lworth T.k_Lworth T.b_Lworth
 have F24:=fn0 P24 T.F_Lsum_fits Nb Gf (sp:=Ys) (by rintro _ _ _ _ ⟨_,_,_,_,rfl,_⟩;rfl) Gq
 have P25:Prg P w K mg base ⟨K,[Zk t.a_ByNought qdiv,Zk t.a_ByNought qmod,Zt t.a_ByNought,Zm,Z8,Z6 t.a_ByNought,Z5,Zh,Zj t.a_ByNought,Zb,Z7,Zo,Y5,Y3,Yj,Yd,Yb,Zr,Wr,Xc,Yh,(Y2 2),W8,Z8,Ys,bot,bot,bot,bot,bot,bot,bot,(fun as M Q Z=>Y5 (as++[.int 100]) M Q Z)],[.cls t.a_JumpError,.cls t.a_ByNought]⟩ FN GN BN 29:=P24.add 24 (x:="_law_sum_fits") rfl F24 (Nat.le_refl _) (Nat.le_succ _) T.g_Lsum_fits T.k_Lsum_fits T.b_Lsum_fits
 have F25:=fn0 P25 T.F_Ltruth Z84 Zg8 (sp:=Wf) (by rintro _ _ _ _ ⟨_,_,_,rfl,_⟩;rfl) Zd2
 have P26:Prg P w K mg base ⟨K,[Zk t.a_ByNought qdiv,Zk t.a_ByNought qmod,Zt t.a_ByNought,Zm,Z8,Z6 t.a_ByNought,Z5,Zh,Zj t.a_ByNought,Zb,Z7,Zo,Y5,Y3,Yj,Yd,Yb,Zr,Wr,Xc,Yh,(Y2 2),W8,Z8,Ys,Wf,bot,bot,bot,bot,bot,bot,(fun as M Q Z=>Y5 (as++[.int 100]) M Q Z)],[.cls t.a_JumpError,.cls t.a_ByNought]⟩ FN GN BN 30:=P25.add 25 (x:="_law_truth") rfl F25 (Nat.le_refl _) (Nat.le_succ _) T.g_Ltruth T.k_Ltruth T.b_Ltruth
 have F26:=fn0 P26 T.F_Ldeed_fits Ov Nl (sp:=Yw) (by rintro _ _ _ _ ⟨_,_,_,_,_,rfl,_⟩;rfl) (G0 rfl rfl rfl rfl)
 have P27:Prg P w K mg base ⟨K,[Zk t.a_ByNought qdiv,Zk t.a_ByNought qmod,Zt t.a_ByNought,Zm,Z8,Z6 t.a_ByNought,Z5,Zh,Zj t.a_ByNought,Zb,Z7,Zo,Y5,Y3,Yj,Yd,Yb,Zr,Wr,Xc,Yh,(Y2 2),W8,Z8,Ys,Wf,Yw,bot,bot,bot,bot,bot,(fun as M Q Z=>Y5 (as++[.int 100]) M Q Z)],[.cls t.a_JumpError,.cls t.a_ByNought]⟩ FN GN BN 31:=P26.add 26 (x:="_law_deed_fits") rfl F26 (Nat.le_refl _) (Nat.le_succ _) T.g_Ldeed_fits T.k_Ldeed_fits T.b_Ldeed_fits
 have F27:=fn0 P27 T.F_Lcome_to Gs Ba (sp:=Rq) (by rintro _ _ _ _ ⟨_,_,_,_,_,rfl,_⟩;rfl) C9
 have P28:Prg P w K mg base ⟨K,[Zk t.a_ByNought qdiv,Zk t.a_ByNought qmod,Zt t.a_ByNought,Zm,Z8,Z6 t.a_ByNought,Z5,Zh,Zj t.a_ByNought,Zb,Z7,Zo,Y5,Y3,Yj,Yd,Yb,Zr,Wr,Xc,Yh,(Y2 2),W8,Z8,Ys,Wf,Yw,Rq,bot,bot,bot,bot,(fun as M Q Z=>Y5 (as++[.int 100]) M Q Z)],[.cls t.a_JumpError,.cls t.a_ByNought]⟩ FN GN BN 32:=P27.add 27 (x:="_law_come_to") rfl F27 (Nat.le_refl _) (Nat.le_succ _) T.g_Lcome_to T.k_Lcome_to T.b_Lcome_to
 have F28:=fn0 P28 T.F_Lwalk Zd8 Zq0 (sp:=Qx) (by rintro _ _ _ _ ⟨_,_,_,_,_,_,rfl,_⟩;rfl) (Zu7 rfl rfl)
 have P29:Prg P w K mg base ⟨K,[Zk t.a_ByNought qdiv,Zk t.a_ByNought qmod,Zt t.a_ByNought,Zm,Z8,Z6 t.a_ByNought,Z5,Zh,Zj t.a_ByNought,Zb,Z7,Zo,Y5,Y3,Yj,Yd,Yb,Zr,Wr,Xc,Yh,(Y2 2),W8,Z8,Ys,Wf,Yw,Rq,Qx,bot,bot,bot,(fun as M Q Z=>Y5 (as++[.int 100]) M Q Z)],[.cls t.a_JumpError,.cls t.a_ByNought]⟩ FN GN BN 33:=P28.add 28 (x:="_law_walk") rfl F28 (Nat.le_refl _) (Nat.le_succ _) T.g_Lwalk T.k_Lwalk T.b_Lwalk
 have F29:=fn0 P29 T.F_Lword Zj6 Zv6 (sp:=Jr) (by rintro _ _ _ _ ⟨_,_,_,_,_,_,_,rfl,_⟩;rfl) (Zr3 rfl)
 have P30:Prg P w K mg base ⟨K,[Zk t.a_ByNought qdiv,Zk t.a_ByNought qmod,Zt t.a_ByNought,Zm,Z8,Z6 t.a_ByNought,Z5,Zh,Zj t.a_ByNought,Zb,Z7,Zo,Y5,Y3,Yj,Yd,Yb,Zr,Wr,Xc,Yh,(Y2 2),W8,Z8,Ys,Wf,Yw,Rq,Qx,Jr,bot,bot,(fun as M Q Z=>Y5 (as++[.int 100]) M Q Z)],[.cls t.a_JumpError,.cls t.a_ByNought]⟩ FN GN BN 34:=P29.add 29 (x:="_law_word") rfl F29 (Nat.le_refl _) (Nat.le_succ _) T.g_Lword T.k_Lword T.b_Lword
 have F30:=fn0 P30 T.F_Lkinds Z94 Zh7 (sp:=Q7) (by rintro _ _ _ _ ⟨_,_,_,_,_,_,rfl,_⟩;rfl) Zc4
 have P31:Prg P w K mg base ⟨K,[Zk t.a_ByNought qdiv,Zk t.a_ByNought qmod,Zt t.a_ByNought,Zm,Z8,Z6 t.a_ByNought,Z5,Zh,Zj t.a_ByNought,Zb,Z7,Zo,Y5,Y3,Yj,Yd,Yb,Zr,Wr,Xc,Yh,(Y2 2),W8,Z8,Ys,Wf,Yw,Rq,Qx,Jr,Q7,bot,(fun as M Q Z=>Y5 (as++[.int 100]) M Q Z)],[.cls t.a_JumpError,.cls t.a_ByNought]⟩ FN GN BN 35:=P30.add 30 (x:="_law_kinds") rfl F30 (Nat.le_refl _) (Nat.le_succ _) T.g_Lkinds T.k_Lkinds T.b_Lkinds
 have F31:=fn0 P31 T.F_law Zz1 Y60 (sp:=B1) (by rintro _ _ _ _ ⟨_,rfl,_⟩;rfl) (Y91 rfl rfl rfl rfl rfl rfl rfl rfl rfl rfl rfl)
 exact F31
theorem Zp7{l:PySem.W.OpenLaw}{w:World}{fa f:Addr}{K:PySem.W.Frag}{mg:Str→Option Value}(hfa:mg "law"=some (.ref fa))(h:∃t:Adr,Tx K mg t∧t.a_law=f∧∀(s:Shared) (v:Value),BindsTo s t.d_law ⟨[v],[]⟩ [("_law_script",v)])
  :∃fd:FuncData,(∀(s:Shared) (v:Value),BindsTo s fd ⟨[v],[]⟩ [("_law_script",v)])∧∀base:Heap,K.In base→base.Ns mainGlobals mg→FnOk l.prog w K mg base (CX1 l.prog w) 36 fa fd ["_law_script"] (spF K B1):=by
 obtain⟨t,T,e,hb⟩:=h
 have e2:=hfa.symm.trans T.g_law
 cases e2
 exact⟨t.d_law,hb,fun base _ _=>Y52 T⟩
end K09
namespace Hand
open PySem PySem.Spec PyProof.Rows L2 L3 U K09
noncomputable def kf(n:Str)(i:Nat)(dV kV dc pm:Value)(an:Option Addr)(cd ct:Value):Obj:=⟨.type "function",none,.func (PySem.W.fnOf n n (Zf (top i)) (Z4 (top i)) (Z0 (top i)) dV kV dc pm an cd ct),#[]⟩
noncomputable def kg(n:Str)(i:Nat)(m:Str)(t c:Nat):Obj:=kf n i .none .none .none (.str m t) none (.ref c) .none
noncomputable def kc(n:Str)(t:Nat)(l a:Int)(r:Nat)(x y:Int)(z:Nat):Obj:=⟨.type "code",none,.fields #[.str n t,.str n (t+1),.str "/claim/cut.py" (t+2),.int l 0,.int a 0,.int 0 0,.int 0 0,.int 3 0,.ref r,.bool true,.int x 0,.ref (r+1),.none,.ref (r+2),.ref (r+3),.ref (r+4),.int y 0,.int l 0,.str "/claim/cut.py" z],#[]⟩
noncomputable def ke(P:Params)(x:Str)(t:Nat)(v:Value):DictEntry:=⟨PyData.keyHash P x,.str x t,v⟩
noncomputable abbrev kd:Value:= .type "dict"
noncomputable abbrev kR(a:Nat):Value:= .ref a
noncomputable abbrev kS(x:Str)(t:Nat):Value:= .str x t
noncomputable def KH(P:Params):PySem.W.Frag:=(nat_lit 2,⟨.none,none,.dict #[] 0,#[]⟩)::(nat_lit 3,⟨kd,none,.dict #[ke P "__name__" 165 (kS "law_unjump_k09_whole_run_goes_on" 371),ke P "__doc__" 166 .none,ke P "__package__" 167 .none,ke P "__loader__" 168 (.builtin "__main__.__loader__#opaque"),ke P "__spec__" 169 .none,ke P "__annotations__" 170 (kR 6),ke P "__builtins__" 171 (kR 4),ke P "__file__" 173 (kS "/claim/cut.py" 172),ke P "__cached__" 174 .none,ke P "JumpError" 215 (kR 32),ke P "ByNought" 231 (kR 45),ke P "made" 242 (kR 54),ke P "quotient" 250 (kR 61),ke P "rest" 258 (kR 68),ke P "holds" 267 (kR 75),ke P "worth" 275 (kR 82),ke P "deed_of_sum" 288 (kR 89),ke P "deed_of_test" 300 (kR 96),ke P "run_from" 317 (kR 103),ke P "deed_of" 325 (kR 110),ke P "behind" 334 (kR 117),ke P "linked" 342 (kR 122),ke P "landings" 356 (kR 129),ke P "run" 370 (kR 137),ke P "_law_draws" 386 (kR 144),ke P "_law_next" 393 (kR 151),ke P "_law_names" 406 (kR 158),ke P "_law_great" 414 (kR 165),ke P "_law_operand" 423 (kR 172),ke P "_law_row" 437 (kR 179),ke P "_law_rows" 443 (kR 184),ke P "_law_memory" 454 (kR 191),ke P "_law_alike" 463 (kR 198),ke P "_law_same_memory" 472 (kR 205),ke P "_law_worth" 480 (kR 212),ke P "_law_sum_fits" 491 (kR 219),ke P "_law_truth" 500 (kR 226),ke P "_law_deed_fits" 511 (kR 233),ke P "_law_come_to" 521 (kR 240),ke P "_law_walk" 535 (kR 247),ke P "_law_word" 545 (kR 254),ke P "_law_kinds" 553 (kR 261),ke P "law" 572 (kR 268)] 43,#[]⟩)::(nat_lit 22,⟨(.type "tuple"),none,.seq #[.none] 0,#[]⟩)::(nat_lit 28,⟨(.type "code"),none,.fields #[(.str "__init__" 201),(.str "JumpError.__init__" 202),(.str "/claim/cut.py" 203),(.int 4 0),(.int 2 0),(.int 0 0),(.int 0 0),(.int 3 0),(.ref 23),(.bool true),(.int 181 0),(.ref 24),.none,(.ref 25),(.ref 26),(.ref 27),(.int 206 0),(.int 4 0),(.str "/claim/cut.py" 207)],#[]⟩)::(nat_lit 29,{cls:=Value.type "function",data:=Data.func {name:=Str.ofString "__init__",qualname:=Str.ofString "JumpError.__init__",params:={posonlyargs:=[],args:=[{arg:=Str.ofString "self",annotation:=none,pos:={line:=4,col:=17,endLine:=4,endCol:=21}},{arg:=Str.ofString "row",annotation:=none,pos:={line:=4,col:=23,endLine:=4,endCol:=26}}],vararg:=none,kwonlyargs:=[],kw_defaults:=[],kwarg:=none,defaults:=[Expr.Constant Const.none 0 {line:=4,col:=27,endLine:=4,endCol:=31}]},body:=FuncBody.stmts [Stmt.Assign [(Expr.Name (Str.ofString "self") {line:=5,col:=8,endLine:=5,endCol:=12}).Attribute (Str.ofString "row") {line:=5,col:=8,endLine:=5,endCol:=16}] (Expr.Name (Str.ofString "row") {line:=5,col:=19,endLine:=5,endCol:=22}) {line:=5,col:=8,endLine:=5,endCol:=22}],scope:={kind:=ScopeKind.function,names:=[(Str.ofString "self",NameKind.local),(Str.ofString "row",NameKind.local)],isGenerator:=false,isCoroutine:=false},globals:=3,closure:=[],defaults:=Value.ref 22,kwdefaults:=Value.none,pyModule:=Value.str (Str.ofString "unjump.errors") 187,code:=Value.ref 28}})::(nat_lit 31,⟨kd,none,.dict #[ke P "__module__" 196 (kS "unjump.errors" 187),ke P "__firstlineno__" 200 (.int 2 199),ke P "__init__" 208 (kR 29),ke P "__static_attributes__" 210 (kR 30),ke P "__weakref__" 212 (kR 33),ke P "__doc__" 213 .none] 3,#[]⟩)::(nat_lit 32,{cls:=Value.type "type",data:=Data.cls {name:=Str.ofString "JumpError",bases:=[Value.type "ValueError"],mro:=[Value.ref 32,Value.type "ValueError",Value.type "Exception",Value.type "BaseException",Value.type "object"],ns:=31,qualname:=Str.ofString "JumpError",subclasses:=[Value.ref 45]},slots:=#[some (Value.ref 15),none,some (Value.str (Str.ofString "JumpError") 189),some (Value.str (Str.ofString "JumpError") 197),some (Value.builtin "ValueError.__new__"),some (Value.bool true)]})::(nat_lit 44,⟨kd,none,.dict #[ke P "__module__" 223 (kS "unjump.errors" 187),ke P "__firstlineno__" 227 (.int 6 226),ke P "__static_attributes__" 228 (kR 43),ke P "__doc__" 229 .none] 2,#[]⟩)::(nat_lit 45,{cls:=Value.type "type",data:=Data.cls {name:=Str.ofString "ByNought",bases:=[Value.ref 32],mro:=[Value.ref 45,Value.ref 32,Value.type "ValueError",Value.type "Exception",Value.type "BaseException",Value.type "object"],ns:=44,qualname:=Str.ofString "ByNought"},slots:=#[some (Value.ref 36),none,some (Value.str (Str.ofString "ByNought") 216),some (Value.str (Str.ofString "ByNought") 224),some (Value.builtin "ValueError.__new__"),some (Value.bool true)]})::(nat_lit 53,kc "made" 234 9 3 48 181 240 241)::(nat_lit 54,kg "made" 4 "unjump.sums" 232 53)::(nat_lit 60,kc "quotient" 243 21 2 55 181 248 249)::(nat_lit 61,kg "quotient" 5 "unjump.sums" 232 60)::(nat_lit 67,kc "rest" 251 25 2 62 181 256 257)::(nat_lit 68,kg "rest" 6 "unjump.sums" 232 67)::(nat_lit 74,kc "holds" 259 29 3 69 181 265 266)::(nat_lit 75,kg "holds" 7 "unjump.sums" 232 74)::(nat_lit 81,kc "worth" 268 33 2 76 181 273 274)::(nat_lit 82,kg "worth" 8 "unjump.sums" 232 81)::(nat_lit 88,kc "deed_of_sum" 276 37 5 83 181 286 287)::(nat_lit 89,kg "deed_of_sum" 9 "unjump.sums" 232 88)::(nat_lit 95,kc "deed_of_test" 289 41 4 90 181 298 299)::(nat_lit 96,kg "deed_of_test" 10 "unjump.sums" 232 95)::(nat_lit 102,kc "run_from" 303 46 4 97 181 315 316)::(nat_lit 103,kg "run_from" 12 "unjump.nodes" 301 102)::(nat_lit 109,kc "deed_of" 318 59 2 104 181 323 324)::(nat_lit 110,kg "deed_of" 13 "unjump.nodes" 301 109)::(nat_lit 116,kc "behind" 326 63 3 111 181 332 333)::(nat_lit 117,kg "behind" 14 "unjump.nodes" 301 116)::(nat_lit 121,⟨(.type "code"),none,.fields #[(.str "linked" 337),(.str "linked" 338),(.str "/claim/cut.py" 339),(.int 69 0),(.int 1 0),(.int 0 0),(.int 0 0),(.int 3 0),(.ref 118),(.bool true),(.int 181 0),(.ref 119),.none,.none,.none,(.ref 120),(.int 340 0),(.int 69 0),(.str "/claim/cut.py" 341)],#[]⟩)::(nat_lit 122,kg "linked" 16 "unjump.graphs" 335 121)::(nat_lit 128,kc "landings" 343 83 2 123 181 354 355)::(nat_lit 129,kg "landings" 17 "unjump.graphs" 335 128)::(nat_lit 130,⟨(.type "tuple"),none,.seq #[(.int 100 359)] 0,#[]⟩)::(nat_lit 136,kc "run" 360 97 3 131 181 368 369)::(nat_lit 137,kf "run" 19 (.ref 130) .none .none (.str "unjump.running" 357) none (.ref 136) .none)::(nat_lit 143,kc "_law_draws" 373 101 1 138 181 384 385)::(nat_lit 144,kg "_law_draws" 21 "law_unjump_k09_whole_run_goes_on" 371 143)::(nat_lit 150,kc "_law_next" 387 118 1 145 181 391 392)::(nat_lit 151,kg "_law_next" 22 "law_unjump_k09_whole_run_goes_on" 371 150)::(nat_lit 157,kc "_law_names" 394 122 1 152 181 404 405)::(nat_lit 158,kg "_law_names" 23 "law_unjump_k09_whole_run_goes_on" 371 157)::(nat_lit 164,kc "_law_great" 407 133 1 159 181 412 413)::(nat_lit 165,kg "_law_great" 24 "law_unjump_k09_whole_run_goes_on" 371 164)::(nat_lit 171,kc "_law_operand" 415 136 2 166 181 421 422)::(nat_lit 172,kg "_law_operand" 25 "law_unjump_k09_whole_run_goes_on" 371 171)::(nat_lit 178,kc "_law_row" 424 143 4 173 181 435 436)::(nat_lit 179,kg "_law_row" 26 "law_unjump_k09_whole_run_goes_on" 371 178)::(nat_lit 183,⟨(.type "code"),none,.fields #[(.str "_law_rows" 438),(.str "_law_rows" 439),(.str "/claim/cut.py" 440),(.int 156 0),(.int 2 0),(.int 0 0),(.int 0 0),(.int 3 0),(.ref 180),(.bool true),(.int 181 0),(.ref 181),.none,.none,.none,(.ref 182),(.int 441 0),(.int 156 0),(.str "/claim/cut.py" 442)],#[]⟩)::(nat_lit 184,kg "_law_rows" 27 "law_unjump_k09_whole_run_goes_on" 371 183)::(nat_lit 190,kc "_law_memory" 444 168 2 185 181 452 453)::(nat_lit 191,kg "_law_memory" 28 "law_unjump_k09_whole_run_goes_on" 371 190)::(nat_lit 197,kc "_law_alike" 455 177 2 192 181 461 462)::(nat_lit 198,kg "_law_alike" 29 "law_unjump_k09_whole_run_goes_on" 371 197)::(nat_lit 204,kc "_law_same_memory" 464 192 2 199 181 470 471)::(nat_lit 205,kg "_law_same_memory" 30 "law_unjump_k09_whole_run_goes_on" 371 204)::(nat_lit 211,kc "_law_worth" 473 199 2 206 181 478 479)::(nat_lit 212,kg "_law_worth" 31 "law_unjump_k09_whole_run_goes_on" 371 211)::(nat_lit 218,kc "_law_sum_fits" 481 203 4 213 181 489 490)::(nat_lit 219,kg "_law_sum_fits" 32 "law_unjump_k09_whole_run_goes_on" 371 218)::(nat_lit 225,kc "_law_truth" 492 220 3 220 181 498 499)::(nat_lit 226,kg "_law_truth" 33 "law_unjump_k09_whole_run_goes_on" 371 225)::(nat_lit 232,kc "_law_deed_fits" 501 222 3 227 181 509 510)::(nat_lit 233,kg "_law_deed_fits" 34 "law_unjump_k09_whole_run_goes_on" 371 232)::(nat_lit 239,kc "_law_come_to" 512 236 3 234 181 519 520)::(nat_lit 240,kg "_law_come_to" 35 "law_unjump_k09_whole_run_goes_on" 371 239)::(nat_lit 246,kc "_law_walk" 522 242 3 241 181 533 534)::(nat_lit 247,kg "_law_walk" 36 "law_unjump_k09_whole_run_goes_on" 371 246)::(nat_lit 253,kc "_law_word" 536 258 4 248 181 543 544)::(nat_lit 254,kg "_law_word" 37 "law_unjump_k09_whole_run_goes_on" 371 253)::(nat_lit 260,kc "_law_kinds" 546 268 2 255 181 551 552)::(nat_lit 261,kg "_law_kinds" 38 "law_unjump_k09_whole_run_goes_on" 371 260)::(nat_lit 267,kc "law" 554 272 1 262 181 570 571)::(nat_lit 268,kg "law" 39 "law_unjump_k09_whole_run_goes_on" 371 267)::[]
noncomputable def qH:Program:={PySem.Challenge.pw_unjump_k09_whole_run_goes_on with main:={PySem.Challenge.pw_unjump_k09_whole_run_goes_on.main with body:=[top 39]}}
noncomputable def lH:List Str:="JumpError"::"ByNought"::"made"::"quotient"::"rest"::"holds"::"worth"::"deed_of_sum"::"deed_of_test"::"run_from"::"deed_of"::"behind"::"linked"::"landings"::"run"::"_law_draws"::"_law_next"::"_law_names"::"_law_great"::"_law_operand"::"_law_row"::"_law_rows"::"_law_memory"::"_law_alike"::"_law_same_memory"::"_law_worth"::"_law_sum_fits"::"_law_truth"::"_law_deed_fits"::"_law_come_to"::"_law_walk"::"_law_word"::"_law_kinds"::[]
noncomputable def aH:List Addr:=2::3::22::28::29::31::32::44::45::53::54::60::61::67::68::74::75::81::82::88::89::95::96::102::103::109::110::116::117::121::122::128::129::130::136::137::143::144::150::151::157::158::164::165::171::172::178::179::183::184::190::191::197::198::204::205::211::212::218::219::225::226::232::233::239::240::246::247::253::254::260::261::267::268::[]
theorem eH(P:Params):aH=(KH P).map (·.1):=by kernel_rfl
set_option maxHeartbeats 0 in
theorem hlH:PySem.W.LeftO PySem.Challenge.pw_unjump_k09_whole_run_goes_on qH lH (fun s=>PySem.W.xlAt qH [] s&&PySem.W.recOk [] s) (PySem.W.Hook.obs (PySem.W.kHook KH aH eH)) (PySem.W.Hook.val (PySem.W.kHook KH aH eH)) 3162:=by intro w;kernel_rfl
end Hand
open PySem PySem.W PyProof.Rows
set_option maxRecDepth 100000 in
set_option maxHeartbeats 0 in
theorem PySem.Challenge.cw_unjump_k09_whole_run_goes_on_holds : PySem.Challenge.rw_unjump_k09_whole_run_goes_on.Holds := by
 w_on;o_law;refine holds_open (q:=Hand.qH) (loose:=Hand.lH) (Xt:=fun s=>xlAt Hand.qH [] s&&recOk [] s) (XP:=XL Hand.qH []) (Yf:=Hook.obs (kHook Hand.KH Hand.aH Hand.eH)) (Ya:=Hook.val (kHook Hand.KH Hand.aH Hand.eH)) (YP:=Hook.says (kHook Hand.KH Hand.aH Hand.eH)) (N:=3162) Hand.hlH (Hook.of _) (Hook.keeps _) (fun s e=>xl_of s (Bool.and_eq_true_iff.mp e).1) XL.keeps (by rfl) (by rfl) (by rfl) (fun s e=>recFacts_of (Bool.and_eq_true_iff.mp e).2) (by rfl) (by first | assumption | decide+kernel) (by decide+kernel) ⟨rfl,rfl,rfl,rfl,rfl,by decide+kernel⟩ ?hw ?hc;(case hw=>w_witness2)
 k_fill
 refine U.Zi8 (l:=PySem.Challenge.rw_unjump_k09_whole_run_goes_on) (k:=36) (x:="_law_script") rfl rfl ⟨rfl,by decide,by decide⟩ (fun w h Y=>PySem.W.kIn_of Y) ?F
 case F=>
  intro w mg fa h KX G hmg
  refine' K09.Zp7 hmg (K09.Y88 KX G ?a0 ?l0 ?c0 ?k0 ?a1 ?l1 ?c1 ?k1 ?a2 ?l2 ?c2 ?k2 ?a3 ?l3 ?c3 ?k3 ?a4 ?l4 ?c4 ?k4 ?a5 ?l5 ?c5 ?k5 ?a6 ?l6 ?c6 ?k6 ?a7 ?l7 ?c7 ?k7 ?a8 ?l8 ?c8 ?k8 ?a9 ?l9 ?c9 ?k9 ?a10 ?l10 ?c10 ?k10 ?a11 ?l11 ?c11 ?k11 ?a12 ?l12 ?c12 ?k12 ?a13 ?l13 ?c13 ?k13 ?a14 ?l14 ?c14 ?k14 ?a15 ?l15 ?c15 ?k15 ?a16 ?l16 ?c16 ?k16 ?a17 ?l17 ?c17 ?k17 ?a18 ?l18 ?c18 ?k18 ?a19 ?l19 ?c19 ?k19 ?a20 ?l20 ?c20 ?k20 ?a21 ?l21 ?c21 ?k21 ?a22 ?l22 ?c22 ?k22 ?a23 ?l23 ?c23 ?k23 ?a24 ?l24 ?c24 ?k24 ?a25 ?l25 ?c25 ?k25 ?a26 ?l26 ?c26 ?k26 ?a27 ?l27 ?c27 ?k27 ?a28 ?l28 ?c28 ?k28 ?a29 ?l29 ?c29 ?k29 ?a30 ?l30 ?c30 ?k30 ?a31 ?l31 ?c31 ?k31 ?z0 ?z1 ?z2 ?z3 ?z4 ?z5 ?z6 ?z7 ?z8 ?z9 ?z10 ?z11 ?n0 ?n1 ?xl0 ?xa0 ?xb0 ?xc0 ?xd0 ?xe0 ?xf0 ?xg0 ?xh0 ?xi0 ?xj0 ?xk0 ?xm0 ?xn0 ?xo0 ?y0_0 ?y0_1 ?y0 ?w0 ?w1 ?w2 ?w3 ?w4 ?il ?ic ?it ?dl12)
  (case a0=>k_is);(case l0=>k_is);(case c0=>k_is);(case k0=>k_is)
  (case a1=>k_is);(case l1=>k_is);(case c1=>k_is);(case k1=>k_is)
  (case a2=>k_is);(case l2=>k_is);(case c2=>k_is);(case k2=>k_is)
  (case a3=>k_is);(case l3=>k_is);(case c3=>k_is);(case k3=>k_is)
  (case a4=>k_is);(case l4=>k_is);(case c4=>k_is);(case k4=>k_is)
  (case a5=>k_is);(case l5=>k_is);(case c5=>k_is);(case k5=>k_is)
  (case a6=>k_is);(case l6=>k_is);(case c6=>k_is);(case k6=>k_is)
  (case a7=>k_is);(case l7=>k_is);(case c7=>k_is);(case k7=>k_is)
  (case a8=>k_is);(case l8=>k_is);(case c8=>k_is);(case k8=>k_is)
  (case a9=>k_is);(case l9=>k_is);(case c9=>k_is);(case k9=>k_is)
  (case a10=>k_is);(case l10=>k_is);(case c10=>k_is);(case k10=>k_is)
  (case a11=>k_is);(case l11=>k_is);(case c11=>k_is);(case k11=>k_is)
  (case a12=>k_is);(case l12=>k_is);(case c12=>k_is);(case k12=>k_is)
  (case a13=>k_is);(case l13=>k_is);(case c13=>k_is);(case k13=>k_is)
  (case a14=>k_is);(case l14=>k_is);(case c14=>k_is);(case k14=>k_is)
  (case a15=>k_is);(case l15=>k_is);(case c15=>k_is);(case k15=>k_is)
  (case a16=>k_is);(case l16=>k_is);(case c16=>k_is);(case k16=>k_is)
  (case a17=>k_is);(case l17=>k_is);(case c17=>k_is);(case k17=>k_is)
  (case a18=>k_is);(case l18=>k_is);(case c18=>k_is);(case k18=>k_is)
  (case a19=>k_is);(case l19=>k_is);(case c19=>k_is);(case k19=>k_is)
  (case a20=>k_is);(case l20=>k_is);(case c20=>k_is);(case k20=>k_is)
  (case a21=>k_is);(case l21=>k_is);(case c21=>k_is);(case k21=>k_is)
  (case a22=>k_is);(case l22=>k_is);(case c22=>k_is);(case k22=>k_is)
  (case a23=>k_is);(case l23=>k_is);(case c23=>k_is);(case k23=>k_is)
  (case a24=>k_is);(case l24=>k_is);(case c24=>k_is);(case k24=>k_is)
  (case a25=>k_is);(case l25=>k_is);(case c25=>k_is);(case k25=>k_is)
  (case a26=>k_is);(case l26=>k_is);(case c26=>k_is);(case k26=>k_is)
  (case a27=>k_is);(case l27=>k_is);(case c27=>k_is);(case k27=>k_is)
  (case a28=>k_is);(case l28=>k_is);(case c28=>k_is);(case k28=>k_is)
  (case a29=>k_is);(case l29=>k_is);(case c29=>k_is);(case k29=>k_is)
  (case a30=>k_is);(case l30=>k_is);(case c30=>k_is);(case k30=>k_is)
  (case a31=>k_is);(case l31=>k_is);(case c31=>k_is);(case k31=>k_is)
  (case z0=>k_is);(case z1=>k_is);(case z2=>k_is);(case z3=>k_is);(case z4=>k_is);(case z5=>k_is);(case z6=>k_is);(case z7=>k_is);(case z8=>k_is);(case z9=>k_is);(case z10=>k_is);(case z11=>k_is)
  (case n0=>k_is);(case n1=>k_is);(case xl0=>k_is);(case xa0=>k_is);(case xb0=>k_is);(case xc0=>k_is);(case xd0=>k_is);(case xe0=>k_is);(case xf0=>k_is);(case xg0=>k_is);(case xh0=>k_is);(case xi0=>k_is);(case xj0=>k_is);(case xk0=>k_is);(case xm0=>k_is);(case xn0=>k_is);(case xo0=>k_is);(case y0_0=>kernel_rfl);(case y0_1=>kernel_rfl);(case y0=>kernel_rfl);(case w0=>k_is);(case w1=>k_is);(case w2=>k_is);(case w3=>k_is);(case w4=>k_is);(case il=>k_is);(case ic=>k_is);(case it=>k_is);(case dl12=>k_is)
