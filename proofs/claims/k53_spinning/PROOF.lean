import PyProof.Rows.All
import Wide.All
import OpenK.AllK
import Wide.FinOn
import Lean
import PyProof.EqAt
import PyProof.EqKinds
import PyProof.TupleCall
import PyProof.CompFree
import PyProof.StationsW
import PyProof.ExcClass3
import PyProof.Commute
import OpenK.KGet
import OpenK.KMeth
import PyProof.ExcArgs
import PyProof.ZipIter
import PyProof.ListNew
import PyProof.EnumMake
import PyProof.EnumStmt
import KE.KRevSl
import PyProof.WalkInts
import PyProof.Rows.MinMaxN
import PyProof.AttrMissHeap
import PyProof.DictList
import PyProof.DictUpdate
import KE.KDictOf
import PyProof.DictWalks
import PyProof.Conv_int_bool
import PyProof.Rows.SetFrom
import PyProof.SetRoads
import PyProof.ForAny
import KE.KDictSum
import PyProof.AutoListH
import KE.KRevIter
import KE.KDictList
import PyProof.ConsumeWalk
import PyProof.TupleIter
import PyProof.EnumIter
import PyProof.ZipIter
import PyProof.DictRoadsH
import KE.KStateDown
import PyProof.Rows.Range3
import PySem.Challenge.RW_unjump_k53_spinning
open PySem renaming wpAny_bind→Aa, wpAny_pure→Ag, wpAny_mono→Dv, wpAny_field→Ex, Spec→Hh, wpAny_Call_Name_kw→Hs, wpAny_newObj_type→Hw, wpAny_seqItems→Ib, wpAny_loadPart_at→Im, wpAny_callSpecial?_slot→Iq, codeAny_mono→Ix, tupleKind_room_in1→Ka, wpAny_passesOwn→Kc, wpAny_holding→Kg, wpAny_standAt→Kh, sizeLine_eq→Kn, wpAny_comprehension_free→Kr, mem_of_lookup→Kv, wpAny_isSubtype_exc→Kw, wpAny_execs_nil→La, wpAny_setField_rec→Le, wpAny_call_entry→Li, wpAny_call→Lo, wpAny_setField→Lq, wpAny_rule→Ls
open PySem.W renaming Frag→Ab, keepIn→Ad, nsIn→Ao, codeIn→Ar, mg_of→As, fnOf→Au, mg_none_of→Du, findIn→Dx, kitOne→Hf, kia_one→Hi, mroIn→Kf, binds_K→Lf, clsIn→Lj
open List renaming length_append→Ac, getElem?_eq_some_iff→Af, length_map→Ah, getElem?_eq_getElem→Ai, size_toArray→Ak, length_singleton→Am, length_cons→An, mem_cons→Aw, getElem?_map→Ax, mem_append_right→Ay, map_append→Az, mem_singleton→Db, map_cons→Dd, replicate→Df, append_assoc→Dg, getElem?_set_ne→Dh, getElem?_append_left→Di, getElem?_append_right→Dk, append_nil→Dn, getElem?_set_self→Dq, mem_cons_of_mem→Dr, contains_iff_mem→Dz, lookup_cons→Go, not_mem_nil→Ha, mem_of_getElem?→Hb, mem_cons_self→He, nil_append→Hj, find?_cons→Hk, cons_append→Hl, drop_eq_getElem_cons→Hn, mem_append→Ho, length_nil→Hq, getElem_mem→Ht, all_cons→Hu, getD_eq_getElem?_getD→Hv, all_eq_true→Hy, range→Hz, length_eq_zero_iff→Ie, replicate_succ→Ig, map_nil→Ih, find?_cons_of_neg→Ii, getElem?_eq_none→Ik, any_cons→Ip, getElem?_cons_succ→Ir, length_take→Iu, any_eq_true→Iv, length_replicate→Kd, set→Kj, flatten_cons→Kk, getElem?_mapIdx→Km, filterMap_cons→Kt, getElem?_cons_zero→Kz, foldl_cons→Lc, forIn_cons→Ld, find?_cons_of_pos→Lh, nodup_cons→Ll, mem_range→Lm
open PySem.Heap renaming get?_push_of_some→Ae, lt_size→Aj, get?_push_size→Aq, get?_update_other→Dl, get?_update_self→Ds, size_push→Ia, SameBut→Il
open Sum renaming inr→Bs, inl→Hm
open Ne renaming symm→Ch
open False renaming elim→De
open PySem.NameKind renaming free→Dj, cell→Hg
open Option renaming map_eq_some_iff→Dm, bind_some→Dp, isSome_iff_exists→Hx
open PySem.SeqAt renaming EqAt→Dt
open Option.some renaming inj→Dw
open True renaming intro→Dy
open PySem.Builtin.SmallTypes renaming nextOf→Hd, ownedTupleIsFree→Ic
open PyProof.Rows renaming callWith_type1→Hr
open PySem.Obj renaming data_mapFields→Ij, mapSeq→Iw, isFreed_of_fields→Ke, mapFields→Ki
open Int renaming toNat_natCast→Io
open LawfulBEq renaming eq_of_beq→Iy
open PySem.Builtin.List renaming listExtendWith→Kb, listTooLong→Kq
open PySem.Builtin.Slice renaming slicePlaces→Kl
open PySem.Builtin.Tuple renaming tupleExact→Ko
open Array renaming length_toList→Ku
open PySem.Heap.SameBut renaming update→Kx
open PySem.Builtin.Str renaming occurrences→Ky
open Sum.inr renaming inj→Lg
open Iff renaming rfl→Lu
open Sum.inl renaming inj→Lv
open PySem.Data renaming dict→Lw
set_option bootstrap.genMatcherCode false
set_option Elab.async false
set_option linter.all false
set_option maxRecDepth 100000
set_option genSizeOf false
set_option compiler.extract_closed false
set_option autoImplicit true
namespace L2
open PySem PySem.Spec PyProof.Rows
noncomputable abbrev Key:=Sum Int Str
noncomputable def Z02:Key→Value→Bool
 | .inl k,v=>Value.isInt k v
 | .inr x,v=>Value.isStrOf x v
noncomputable def keyH(w:World):Key→Int
 | .inl k=>hashInt k
 | .inr x=>hashStr w x
theorem Yp:∀{k:Key} {v:Value},Z02 k v=true→(∃i t,k=Hm i∧v=Value.int i t)∨(∃x t,k=Bs x∧v=Value.str x t)
 | .inl i,v,h=>by
  obtain⟨t,e⟩:=Value.isInt_shape (k:=i) (v:=v) h
  exact .inl ⟨i,t,rfl,e⟩
 | .inr x,v,h=>by
  obtain⟨t,e⟩:=Value.isStrOf_shape (x:=x) (v:=v) h
  exact .inr ⟨x,t,rfl,e⟩
theorem Zf6(i:Int)(t:Tok):Z02 (.inl i) (.int i t)=true:=by simp[Z02,Value.isInt]
theorem Z97(x:Str)(t:Tok):Z02 (.inr x) (.str x t)=true:=by simp[Z02,Value.isStrOf]
theorem Y38(a b:Int):decide ((Hm a:Key)=Hm b)=(a==b):=by
 by_cases e:a=b
 ·subst e;simp
 ·have h:¬(Hm a:Key)=Hm b:=fun q=>e (Lv q)
  rw[decide_eq_false h]
  exact(beq_eq_false_iff_ne.mpr e).symm
theorem Y57(a b:Str):decide ((Bs a:Key)=Bs b)=decide (a=b):=by
 by_cases e:a=b
 ·subst e;simp
 ·have h:¬(Bs a:Key)=Bs b:=fun q=>e (Lg q)
  rw[decide_eq_false h,decide_eq_false e]
theorem Yc7(a:Int)(b:Str):decide ((Hm a:Key)=Bs b)=false:=decide_eq_false (fun q=>nomatch q)
theorem Y91(a:Str)(b:Int):decide ((Bs a:Key)=Hm b)=false:=decide_eq_false (fun q=>nomatch q)
noncomputable def Ye(prog:Program)(w:World):PySem.KeyKind prog w Key where
 is:=Z02
 hash:=keyH w
 inj:=fun v a b ha hb=>by
  rcases Yp ha with⟨i,t,rfl,rfl⟩ | ⟨x,t,rfl,rfl⟩
  ·rcases Yp hb with⟨j,u,rfl,e⟩ | ⟨y,u,rfl,e⟩
   ·injection e with e1 _;rw[e1]
   ·exact nomatch e
  ·rcases Yp hb with⟨j,u,rfl,e⟩ | ⟨y,u,rfl,e⟩
   ·exact nomatch e
   ·injection e with e1 _;rw[e1]
 byValue:=fun k v h=>by
  rcases Yp h with⟨i,t,rfl,rfl⟩ | ⟨x,t,rfl,rfl⟩<;>rfl
 pyHash:=fun hv h=>by
  rcases Yp hv with⟨i,t,rfl,rfl⟩ | ⟨x,t,rfl,rfl⟩
  ·exact wpAny_pyHash_int h
  ·exact wpAny_pyHash_str h
 eqBool:=fun hu hv h=>by
  rcases Yp hu with⟨i,t,rfl,rfl⟩ | ⟨x,t,rfl,rfl⟩
  ·rcases Yp hv with⟨j,u,rfl,rfl⟩ | ⟨y,u,rfl,rfl⟩
   ·rw[Y38] at h;exact wpAny_eqBool_int h
   ·rw[Yc7] at h;exact Dt.int_str i t y u _ _ _ _ h
  ·rcases Yp hv with⟨j,u,rfl,rfl⟩ | ⟨y,u,rfl,rfl⟩
   ·rw[Y91] at h;exact Dt.str_int x t j u _ _ _ _ h
   ·rw[Y57] at h;exact wpAny_eqBool_str h
 «strs»:=fun k x t v h=>by
  rcases Yp h with⟨i,u,rfl,e⟩ | ⟨y,u,rfl,e⟩
  ·exact nomatch e
  ·injection e with e1 _
   subst e1
   cases v<;>rfl
theorem E2(prog:Program)(w:World)(i:Int)(t:Tok):(Ye prog w).is (.inl i) (.int i t)=true:=Zf6 i t
theorem Eb(prog:Program)(w:World)(x:Str)(t:Tok):(Ye prog w).is (.inr x) (.str x t)=true:=Z97 x t
inductive V where
 | non | bl (b:Bool) | int (i:Int) | str (x:Str) | byt (b:Array UInt8) | flt (b:UInt64) | ref (a:Addr) | ty (n:String)
 deriving DecidableEq
def RelV:V→Value→Prop
 | .non,u=>u=Value.none
 | .bl b,u=>u=Value.bool b
 | .int i,u=>∃t,u=Value.int i t
 | .str x,u=>∃t,u=Value.str x t
 | .byt b,u=>∃t,u=Value.bytes b t
 | .flt b,u=>∃t,u=Value.float b t
 | .ref a,u=>u=Value.ref a
 | .ty n,u=>u=Value.type n
abbrev Vals:List V→List Value→Prop:=Paired RelV
theorem Vals.length{xs:List V}{us:List Value}(r:Vals xs us):xs.length=us.length:=Paired.length r
theorem Vals.get:∀{xs:List V} {us:List Value} {i:Nat} {x:V},Vals xs us→xs[i]?=some x→∃u,us[i]?=some u∧RelV x u
 | _,_,_,_,.nil,e=>by simp at e
 | _,_,0,_,.cons r _,e=>by simp at e;subst e;exact⟨_,rfl,r⟩
 | _,_,i+1,x,.cons _ t,e=>by
  obtain⟨u,h1,h2⟩:=Vals.get (i:=i) (x:=x) t (by simpa using e)
  exact⟨u,by simpa using h1,h2⟩
theorem Vals.set{x:V}{u:Value}(r:RelV x u):∀{xs:List V} {us:List Value} (i:Nat),Vals xs us→Vals (xs.set i x) (us.set i u)
 | _,_,_,.nil=> .nil
 | _,_,0,.cons _ t=> .cons r t
 | _,_,i+1,.cons q t=> .cons q (Vals.set r i t)
theorem Vals.append:∀{xs ys:List V} {us ws:List Value},Vals xs us→Vals ys ws→Vals (xs++ys) (us++ws)
 | _,_,_,_,.nil,s=>s
 | _,_,_,_,.cons r t,s=> .cons r (Vals.append t s)
theorem Vals.take:∀{xs:List V} {us:List Value} (n:Nat),Vals xs us→Vals (xs.take n) (us.take n)
 | _,_,0,_=> .nil
 | _,_,_+1,.nil=> .nil
 | _,_,n+1,.cons r t=> .cons r (Vals.take n t)
theorem Vals.drop:∀{xs:List V} {us:List Value} (n:Nat),Vals xs us→Vals (xs.drop n) (us.drop n)
 | _,_,0,r=>r
 | _,_,_+1,.nil=> .nil
 | _,_,n+1,.cons _ t=>Vals.drop n t
def RelO:Option V→Option Value→Prop
 | some v,some u=>RelV v u
 | none,none=>True
 | _,_=>False
def KV{κ:Type}:List (κ×V)→List (κ×Value)→Prop:=Paired fun(p:κ×V) (q:κ×Value)=>p.1=q.1∧RelV p.2 q.2
noncomputable def kV:Key→V
 | .inl i=> .int i
 | .inr x=> .str x
inductive HO where
 | lst (xs:List V)
 | tup (xs:List V)
 | dK (kvs:List (Key×V)) | dT (kvs:List (List Key×V))
 | set (S:Int→Bool) (n:Nat)
 | ins (C dx:Addr) (fs:List (Str×V))
 | own (x:Addr)
 | xd (fs:List (Str×V))
 | met (f x:Addr)
 | rng (lo hi:Int)
 | frz (o:Obj) (u:HO)
 | tbl (ps:Array Value)
 | ext (φ:Heap→Prop)
noncomputable abbrev Hp:=Addr→Option HO
noncomputable def upd(H:Hp)(a:Addr)(o:HO):Hp:=fun b=>if b=a then some o else H b
theorem Zs{H:Hp}{a:Addr}{o:HO}:upd H a o a=some o:=by unfold upd;rw[if_pos rfl]
theorem Za{H:Hp}{a b:Addr}{o:HO}(h:b≠a):upd H a o b=H b:=by unfold upd;rw[if_neg h]
theorem Y84{H:Hp}{a b:Addr}{o u:HO}(h:H a=some o)(h':H b=some u)(d:o≠u):a≠b:=by
 intro e;subst e;rw[h] at h';exact d (Dw h')
theorem Wv{H:Hp}{a b:Addr}{o:HO}(h:H a=some o)(h':H b=none):a≠b:=by
 intro e;subst e;rw[h] at h';cases h'
section
variable(P:Program)(w:World)
def X6(H:Hp)(h:Heap)(a:Addr):HO→Prop
 | .lst xs=>xs.length≤sizeLine∧∃(its:List Value) (n:Nat),Vals xs its∧h.get? a=some {cls:= .type "list",data:= .seq its.toArray n}
 | .tup xs=>xs.length≤sizeLine∧∃its:List Value,Vals xs its∧IsTup h a its.toArray
 | .dK kvs=>kvs.length≤sizeLine∧(a==sysModules)=false∧∃vs,KV kvs vs∧h.DictOf (Ye P w) a vs
 | .dT kvs=>kvs.length≤sizeLine∧(a==sysModules)=false∧∃xs:List (List Key×Addr×Value),
   Paired (fun(p:List Key×V) (q:List Key×Addr×Value)=>p.1=q.1∧H q.2.1=some (.tup (p.1.map kV))∧RelV p.2 q.2.2) kvs xs∧
   ∃o es ep,h.get? a=some o∧o.ExactDict∧o.data= .dict es ep∧es.toList=xs.map (entryOfKey (tupleKind (Ye P w)))∧(xs.map (·.1)).Nodup
 | .set S n=>h.SetOf (intKind P w) a S n
 | .ins C dx fs=>H dx=some (.own a)∧fs.length≤1000∧dx≠a∧h.get? a=some (PySem.W.instObj C dx)∧
   ∃mA,h.Ns1 dx mA∧(∀f,RelO (fs.lookup f) (mA f))∧PySem.Within mA (fs.map (·.1))
 | .own _=>∃o,h.get? a=some o
 | .xd fs=>∃mA,h.Ns1 a mA∧∀f,RelO (fs.lookup f) (mA f)
 | .rng lo hi=>∃t u v,h.get? a=some {cls:= .type "range",data:= .fields #[.int lo t,.int hi u,.int 1 v]}
 | .frz o u=>h.get? a=some o∧X6 H h a u
 | .tbl ps=>h.get? a=some {cls:= .none,data:= .fields ps}
 | .met f x=>h.get? a=some (PySem.W.methodObj (.ref f) (.ref x))
 | .ext φ=>φ h∧(∃o,h.get? a=some o)∧∀h1 h2:Heap,φ h1→(∀o,h1.get? a=some o→h2.get? a=some o)→φ h2
def HOk(H:Hp)(h:Heap):Prop:=∀a o,H a=some o→X6 P w H h a o
end
section
variable{P:Program}{w:World}{H H':Hp}{h h':Heap}{a:Addr}{o:HO}
theorem X6.lt(x:X6 P w H h a o):a<h.objs.size:=by
 cases o with
 | lst xs=>obtain⟨_,_,_,_,e⟩:=x;exact Aj e
 | tup xs=>obtain⟨_,_,_,p⟩:=x;exact p.lt
 | dK kvs=>obtain⟨_,_,_,_,o,_,_,e,_⟩:=x;exact Aj e
 | dT kvs=>obtain⟨_,_,_,_,o,_,_,e,_⟩:=x;exact Aj e
 | set S n=>obtain⟨o,_,_,_,e,_⟩:=x;exact Aj e
 | ins C dx fs=>obtain⟨_,_,_,e,_⟩:=x;exact Aj e
 | own y=>obtain⟨_,e⟩:=x;exact Aj e
 | xd fs=>obtain⟨_,⟨_,_,_,e,_⟩,_⟩:=x;exact Aj e
 | rng lo hi=>obtain⟨_,_,_,e⟩:=x;exact Aj e
 | frz ob u=>obtain⟨e,_⟩:=x;exact Aj e
 | tbl ps=>exact Aj (show h.get? a=some _ from x)
 | met f y=>exact Aj (show h.get? a=some _ from x)
 | ext φ=>obtain⟨_,⟨_,e⟩,_⟩:=x;exact Aj e
theorem Paired.mapP{α β:Type}{F G:α→β→Prop}:∀{l₁:List α} {l₂:List β},Paired F l₁ l₂→(∀a b,F a b→G a b)→Paired G l₁ l₂
 | _,_,.nil,_=> .nil
 | _,_,.cons r t,f=> .cons (f _ _ r) (Paired.mapP t f)
theorem X6.stay(x:X6 P w H h a o)(k:∀b u,(b=a∨H b=some (.own a))→h.get? b=some u→h'.get? b=some u)
  (ho:∀b,H b=some (.own a)→H' b=some (.own a)) (ht:∀b xs,H b=some (.tup xs)→H' b=some (.tup xs)):X6 P w H' h' a o:=by
 induction o with
 | lst xs=>obtain⟨z,its,n,r,e⟩:=x;exact⟨z,its,n,r,k _ _ (.inl rfl) e⟩
 | tup xs=>obtain⟨z,its,r,ob,e,c⟩:=x;exact⟨z,its,r,ob,k _ _ (.inl rfl) e,c⟩
 | dK kvs=>obtain⟨z,y,vs,r,ob,es,ep,e,c⟩:=x;exact⟨z,y,vs,r,ob,es,ep,k _ _ (.inl rfl) e,c⟩
 | dT kvs=>
  obtain⟨z,y,xs,r,ob,es,ep,e,c⟩:=x
  exact⟨z,y,xs,Paired.mapP r fun p q z=>⟨z.1,ht _ _ z.2.1,z.2.2⟩,ob,es,ep,k _ _ (.inl rfl) e,c⟩
 | set S n=>obtain⟨ob,es,ep,t,e,c⟩:=x;exact⟨ob,es,ep,t,k _ _ (.inl rfl) e,c⟩
 | ins C dx fs=>
  obtain⟨d,z,ne,e,mA,⟨od,es,ep,e2,c⟩,r⟩:=x
  exact⟨ho _ d,z,ne,k _ _ (.inl rfl) e,mA,⟨od,es,ep,k _ _ (.inr d) e2,c⟩,r⟩
 | own y=>obtain⟨ob,e⟩:=x;exact⟨ob,k _ _ (.inl rfl) e⟩
 | xd fs=>obtain⟨mA,⟨od,es,ep,e,c⟩,r⟩:=x;exact⟨mA,⟨od,es,ep,k _ _ (.inl rfl) e,c⟩,r⟩
 | rng lo hi=>obtain⟨t,u,v,e⟩:=x;exact⟨t,u,v,k _ _ (.inl rfl) e⟩
 | frz ob u ih=>obtain⟨e,q⟩:=x;exact⟨k _ _ (.inl rfl) e,ih q⟩
 | tbl ps=>
  have e:h.get? a=some {cls:= .none,data:= .fields ps}:=x
  show h'.get? a=some {cls:= .none,data:= .fields ps}
  exact k a _ (.inl rfl) e
 | met f y=>
  have e:h.get? a=some (PySem.W.methodObj (.ref f) (.ref y)):=x
  show h'.get? a=some (PySem.W.methodObj (.ref f) (.ref y))
  exact k a _ (.inl rfl) e
 | ext φ=>obtain⟨p,⟨o,e⟩,st⟩:=x;exact⟨st _ _ p fun o q=>k _ _ (.inl rfl) q,⟨o,k _ _ (.inl rfl) e⟩,st⟩
theorem HOk.lt(x:HOk P w H h)(e:H a=some o):a<h.objs.size:=(x a o e).lt
theorem HOk.fresh(x:HOk P w H h)(e:h.objs.size≤a):H a=none:=by
 cases q:H a with
 | none=>rfl
 | some u=>exact absurd (Nat.lt_of_lt_of_le (x.lt q) e) (Nat.lt_irrefl _)
theorem HOk.kept(x:HOk P w H h)(k:∀b u,h.get? b=some u→h'.get? b=some u):HOk P w H h':=fun a o e=>
 (x a o e).stay (fun b u _ q=>k b u q) (fun _ q=>q) fun _ _ q=>q
theorem HOk.laid(x:HOk P w H h)(k:∀b u,h.get? b=some u→h'.get? b=some u)(hp:h.objs.size≤a)(new:X6 P w (upd H a o) h' a o):HOk P w (upd H a o) h':=fun b u e=>by
 have hn:=x.fresh hp
 by_cases hb:b=a
 ·subst hb;rw[Zs] at e;cases e;exact new
 ·rw[Za hb] at e
  exact(x b u e).stay (fun c v _ q=>k c v q) (fun c q=>by rw[Za (Wv q hn)];exact q) fun c xs q=>by rw[Za (Wv q hn)];exact q
end
def Rd(H:Hp)(a:Addr)(u:HO):Prop:=H a=some u∨∃o,H a=some (.frz o u)
theorem Rd.ok{P:Program}{w:World}{H:Hp}{h:Heap}{a:Addr}{u:HO}(r:Rd H a u)(x:HOk P w H h):X6 P w H h a u:=by
 rcases r with r | ⟨o,r⟩
 ·exact x a u r
 ·obtain⟨_,q⟩:=x a _ r
  exact q
def Mut:Option HO→Prop
 | some (.lst _)=>True
 | some (.dK _)=>True
 | some (.dT _)=>True
 | some (.set _ _)=>True
 | some (.ins _ _ _)=>True
 | some (.ext _)=>True
 | _=>False
section
variable{P:Program}{w:World}{H:Hp}{h h':Heap}{x e:Addr}{o':HO}
theorem HOk.write(ok:HOk P w H h)(mu:Mut (H x))(he:e=x∨H e=some (.own x))(k:∀b u,b≠e→h.get? b=some u→h'.get? b=some u)(heo:∃u,h'.get? e=some u)
  (new:X6 P w (upd H x o') h' x o'):HOk P w (upd H x o') h':=fun b u q=>by
 have nown:∀c y,H c=some (.own y)→c≠x:=fun c y r z=>by subst z;rw[r] at mu;exact mu
 have ntup:∀c xs,H c=some (.tup xs)→c≠x:=fun c xs r z=>by subst z;rw[r] at mu;exact mu
 by_cases hb:b=x
 ·subst hb;rw[Zs] at q;cases q;exact new
 ·rw[Za hb] at q
  by_cases hbe:b=e
  ·have q':H b=some (.own x):=by
    rcases he with z | z
    ·exact absurd (hbe.trans z) hb
    ·rw[hbe];exact z
   rw[q] at q';cases q'
   obtain⟨v,hv⟩:=heo
   exact⟨v,by rw[hbe];exact hv⟩
  ·refine(ok b u q).stay (fun c v hc r=>k c v ?_ r) (fun c r=>by rw[Za (nown c b r)];exact r) fun c xs r=>by rw[Za (ntup c xs r)];exact r
   rcases hc with rfl | hc
   ·exact hbe
   ·rintro rfl
    rcases he with z | z
    ·exact nown c b hc z
    ·rw[hc] at z;cases z;exact hb rfl
end
structure Un(fs ex:List Addr)(H H':Hp)(h h':Heap):Prop where
 keep:∀b o,h.get? b=some o→H b=none→b∉fs→b∉ex→h'.get? b=some o
 slot:∀b o,h.get? b=some o→H b=none→b∈fs→b∉ex→∃sl,h'.get? b=some {o with slots:=sl}
 free:∀b o,h.get? b=some o→H b=none→b∉ex→H' b=none
 there:∀b o,h.get? b=some o→b∉ex→∃o',h'.get? b=some o'
 tups:∀b xs,H b=some (.tup xs)→H' b=some (.tup xs)
 frzs:∀b o u,H b=some (.frz o u)→H' b=some (.frz o u)
 tbls:∀b ps,H b=some (.tbl ps)→∃more,H' b=some (.tbl (ps++more))
section
variable{fs fs' ex ex':List Addr}{H H1 H2:Hp}{h h1 h2 h':Heap}{a x e:Addr}{o:HO}
theorem Un.any(u:Un fs ex H H1 h h1){b:Addr}{ob:Obj}(q:h.get? b=some ob)(n:H b=none)(hx:b∉ex):∃sl,h1.get? b=some {ob with slots:=sl}:=by
 by_cases hb:b∈fs
 ·exact u.slot b ob q n hb hx
 ·exact⟨ob.slots,u.keep b ob q n hb hx⟩
theorem Un.kept(k:∀b u,h.get? b=some u→h'.get? b=some u):Un fs ex H H h h':=
 ⟨fun b ob q _ _ _=>k b ob q,fun b ob q _ _ _=>⟨ob.slots,k b ob q⟩,fun _ _ _ n _=>n,fun b ob q _=>⟨ob,k b ob q⟩,fun _ _ q=>q,fun _ _ _ q=>q,fun _ ps q=>⟨#[],by rw[q];simp⟩⟩
theorem Un.refl:Un fs ex H H h h:=Un.kept fun _ _ q=>q
theorem Un.laid(k:∀b u,h.get? b=some u→h'.get? b=some u)(hp:h.objs.size≤a)(hn:H a=none):Un fs ex H (upd H a o) h h' where
 keep:=fun b u q _ _ _=>k b u q
 slot:=fun b u q _ _ _=>⟨u.slots,k b u q⟩
 free:=fun b u q n _=>by rw[Za (Nat.ne_of_lt (Nat.lt_of_lt_of_le (Aj q) hp))];exact n
 there:=fun b u q _=>⟨u,k b u q⟩
 tups:=fun b xs q=>by rw[Za (Wv q hn)];exact q
 frzs:=fun b u xs q=>by rw[Za (Wv q hn)];exact q
 tbls:=fun b ps q=>⟨#[],by rw[Za (Wv q hn),q];simp⟩
theorem Un.write(mu:Mut (H x))(he:e=x∨H e=some (.own x))(k:∀b u,b≠e→h.get? b=some u→h'.get? b=some u)(heo:∃u,h'.get? e=some u):Un fs ex H (upd H x o) h h':=by
 have hx:∀b,H b=none→b≠x:=fun b n z=>by subst z;rw[n] at mu;exact mu
 have hb:∀b,H b=none→b≠e:=fun b n z=>by
  subst z
  rcases he with r | r
  ·exact hx b n r
  ·rw[n] at r;cases r
 have hm:∀b u,H b=some u→¬Mut (some u)→b≠x:=fun b u q nm z=>by subst z;rw[q] at mu;exact nm mu
 refine⟨fun b u q n _ _=>k b u (hb b n) q,fun b u q n _ _=>⟨u.slots,k b u (hb b n) q⟩,fun b u q n _=>by rw[Za (hx b n)];exact n,fun b u q _=>?_,
  fun b xs q=>by rw[Za (hm b _ q fun z=>z)];exact q,fun b u xs q=>by rw[Za (hm b _ q fun z=>z)];exact q,fun b ps q=>⟨#[],by rw[Za (hm b _ q fun z=>z),q];simp⟩⟩
 by_cases hbe:b=e
 ·subst hbe;exact heo
 ·exact⟨u,k b u hbe q⟩
end
noncomputable def trk(h:Heap)(H:Hp):List Addr:=(Hz h.objs.size).filter fun a=>(H a).isSome
noncomputable def hidT(h:Heap)(H:Hp):Heap:=PySem.W.hideAll h (trk h H)
theorem Ze7(h:Heap)(H:Hp):(hidT h H).objs.size=h.objs.size:=PySem.W.hideAll_size _ _
theorem Zj0{h:Heap}{H:Hp}{b:Addr}{o:Obj}(e:h.get? b=some o)(n:H b=none):(hidT h H).get? b=some o:=
 PySem.W.hideAll_get _ e fun hm=>by
  have q:(H b).isSome=true:=(List.mem_filter.mp hm).2
  rw[n] at q;simp at q
theorem Zt8{h:Heap}{H:Hp}{b:Addr}{o:Obj}(e:(hidT h H).get? b=some o):h.get? b=some o∧H b=none:=by
 have e':h.get? b=some o:=PySem.W.of_hideAll (trk h H) e
 refine⟨e',?_⟩
 cases q:H b with
 | none=>rfl
 | some x=>
  have hm:b∈trk h H:=List.mem_filter.mpr ⟨Lm.mpr (Aj e'),by simp[q]⟩
  have z:(hidT h H).get? b=none:=PySem.W.hideAll_none (trk h H) hm
  rw[z] at e;cases e
noncomputable def Y06(g h:Heap)(L:Addr):List (Addr×Obj):=(Hz h.objs.size).filterMap fun a=>if a=L∨(g.get? a).isSome=true then none else(h.get? a).map fun o=>(a,o)
noncomputable def rest(g h:Heap)(L d:Addr):List (Addr×Obj):=(Y06 g h L).filter fun p=>decide (p.1≠d)
structure Mod(K:Ab)(mg:Str→Option Value)(base:Heap):Prop where
 kin:K.In base
 glob:base.Ns mainGlobals mg
 blt:∃mb,base.Ns builtinsNs mb∧∀x:Str,x≠"__name__"→mb x=bootBuiltins x
 nolimit:base.NoLimit
structure Cx where
 prog:Program
 w:World
 K:Ab
 mg:Str→Option Value
 base:Heap
 A:Around
 N:List Str
 s₀:Shared
 H₀:Hp
 env:Env
 outer:List Env
 stack:List Env
 ex:List Addr
 fn:Str→Bool
 calm:Bool
 pn:List (Addr×Obj)
 xe:Value→Shared→Prop
noncomputable def frs(l:List Env):List Addr:=l.filterMap (·.frame)
noncomputable abbrev Cx.fs(X:Cx):List Addr:=frs X.outer
def Vis(sc:Scope)(x:Str):Prop:=sc.names.lookup x=some .local∨sc.names.lookup x=some .cell∨sc.names.lookup x=some .free
def Loc(sc:Scope)(x:Str):Prop:=sc.names.lookup x=some .local∨sc.names.lookup x=some .cell
def Look(env:Env)(h:Heap)(m:Str→Option Value)(x:Str)(u:Value):Prop:=
 (env.kindOf x=some .local∧m x=some u)∨((env.kindOf x=some .cell∨env.kindOf x=some .free)∧∃c,env.cells.lookup x=some c∧h.IsCell c (some u))
structure Cx.Ok(X:Cx):Prop where
 mod:Mod X.K X.mg X.base
 kind:X.env.scope.kind= .function
 glob:X.env.globals=mainGlobals
 blt:X.env.builtins=builtinsNs
 above:X.s₀.heap.objs.size≤X.env.locals
 inj:∀x y c,X.env.cells.lookup x=some c→X.env.cells.lookup y=some c→x=y
 has:∀x,(X.env.kindOf x=some .cell∨X.env.kindOf x=some .free)→∃c,X.env.cells.lookup x=some c
 cab:∀x c,X.fn x=true→X.env.cells.lookup x=some c→X.s₀.heap.objs.size≤c
 hd:X.calm=true→X.A.handled=none
 frames:X.A.frames=some X.stack
 stk:X.stack=X.outer∨(X.stack=X.env::X.outer∧X.env.frame=some X.env.locals)
 exf:∀b∈X.ex,b≠X.env.locals∧∀x c,X.env.cells.lookup x=some c→c≠b
 bs:∀b o,X.base.get? b=some o→X.s₀.heap.get? b=some o∧X.H₀ b=none
 bsz:X.base.objs.size≤X.s₀.heap.objs.size
 noex:∀b o,X.base.get? b=some o→b∉X.ex
 exfs:∀b∈X.ex,b∉X.fs
 funs:X.s₀.heap.FunFrames X.base X.outer
 frf:∀b∈X.fs,X.H₀ b=none
structure Inv(X:Cx)(pins:List (Addr×Obj))(σ:List (Option V))(H:Hp)(s:Shared):Prop where
 ok:X.Ok
 os:s.os=X.s₀.os
 bare:AllBare s.gens
 base:Un X.fs X.ex X.H₀ H X.s₀.heap s.heap
 loc:∃m,s.heap.Ns X.env.locals m∧∀(i:Nat) (x:Str) (v:V),X.N[i]?=some x→σ[i]?=some (some v)→Vis X.env.scope x→∃u,RelV v u∧Look X.env s.heap m x u
 cell:∀x c,X.env.cells.lookup x=some c→∃v,s.heap.IsCell c v
 free:H X.env.locals=none
 freeC:∀x c,X.env.cells.lookup x=some c→H c=none
 pin:∀p∈X.pn++pins,s.heap.get? p.1=some p.2∧H p.1=none∧p.1≠X.env.locals∧p.1∉X.fs∧∀v,p.2.data≠ .cell v
 hok:HOk X.prog X.w H s.heap
 len:σ.length=X.N.length
section
variable{X:Cx}{pins:List (Addr×Obj)}{σ:List (Option V)}{H H':Hp}{s:Shared}{h':Heap}
theorem Cx.Ok.nofr(ok:X.Ok){b:Addr}{o:Obj}(e:X.base.get? b=some o):b∉X.fs:=fun hb=>by
 have:=(ok.funs.mem hb).1
 rw[e] at this;cases this
theorem Inv.bs(I:Inv X pins σ H s):∀b o,X.base.get? b=some o→s.heap.get? b=some o∧H b=none:=fun b o e=>
 ⟨I.base.keep b o (I.ok.bs b o e).1 (I.ok.bs b o e).2 (I.ok.nofr e) (I.ok.noex b o e),I.base.free b o (I.ok.bs b o e).1 (I.ok.bs b o e).2 (I.ok.noex b o e)⟩
theorem Inv.bk(I:Inv X pins σ H s):∀b o,X.base.get? b=some o→s.heap.get? b=some o:=fun b o e=>(I.bs b o e).1
theorem Inv.mod(I:Inv X pins σ H s):Mod X.K X.mg X.base:=I.ok.mod
theorem Inv.kIn(I:Inv X pins σ H s):X.K.In s.heap:=I.ok.mod.kin.keeps I.bk
theorem Inv.lt(I:Inv X pins σ H s):X.env.locals<s.heap.objs.size:=by obtain⟨_,hn,_⟩:=I.loc;exact hn.lt
theorem Inv.sz(I:Inv X pins σ H s):X.s₀.heap.objs.size≤s.heap.objs.size:=Nat.le_trans I.ok.above (Nat.le_of_lt I.lt)
theorem Inv.nofs(I:Inv X pins σ H s){a:Addr}(h:s.heap.objs.size≤a):a∉X.fs:=fun hb=>by
 obtain⟨_,o,ho,_⟩:=I.ok.funs.mem hb
 exact absurd (Nat.lt_of_lt_of_le (Aj ho) (Nat.le_trans I.sz h)) (Nat.lt_irrefl _)
theorem Inv.cne(I:Inv X pins σ H s):∀x c,X.env.cells.lookup x=some c→c≠X.env.locals:=fun x c e z=>by
 obtain⟨v,o,ho,hd⟩:=I.cell x c e
 obtain⟨m,⟨o',es,ep,ho',hd',_⟩,_⟩:=I.loc
 rw[z,ho'] at ho;cases ho;rw[hd'] at hd;cases hd
theorem Inv.funs(I:Inv X pins σ H s):s.heap.FunFrames X.base X.outer:=by
 have all:∀(l:List Env),(∀b∈frs l,b∈X.fs)→X.s₀.heap.FunFrames X.base l→s.heap.FunFrames X.base l:=by
  intro l
  induction l with
  | nil=>intro _ _;trivial
  | cons env r ih=>
   intro hs hl
   obtain⟨hk,⟨L,o,hf,hn,ho,hd⟩,hr⟩:=hl
   have hL:L∈X.fs:=hs L (by unfold frs;rw[Kt,hf];exact He)
   obtain⟨sl,e⟩:=I.base.slot L o ho (I.ok.frf L hL) hL fun z=>I.ok.exfs L z hL
   exact⟨hk,⟨L,_,hf,hn,e,hd⟩,ih (fun b hb=>hs b (by unfold frs;rw[Kt,hf];exact Dr _ hb)) hr⟩
 exact all X.outer (fun _ hb=>hb) I.ok.funs
theorem Inv.stack(I:Inv X pins σ H s):s.heap.FunFrames X.base X.stack:=by
 rcases I.ok.stk with e | ⟨e,hf⟩
 ·rw[e];exact I.funs
 ·rw[e]
  obtain⟨m,hn,_⟩:=I.loc
  refine .cons (by rw[I.ok.kind];decide) hf hn ?_ I.funs
  exact Heap.get?_none_of_le (Nat.le_trans I.ok.bsz I.ok.above)
theorem Inv.stkSub(I:Inv X pins σ H s):∀b∈frs X.stack,b∈X.env.locals::X.fs:=fun b hb=>by
 rcases I.ok.stk with e | ⟨e,hf⟩
 ·rw[e] at hb;exact Dr _ hb
 ·rw[e] at hb
  unfold frs at hb
  rw[Kt,hf] at hb
  exact hb
theorem Inv.stkFree(I:Inv X pins σ H s):∀b∈frs X.stack,H b=none:=fun b hb=>by
 rcases Aw.mp (I.stkSub b hb) with e | hb
 ·rw[e];exact I.free
 ·obtain⟨_,o,ho,_⟩:=I.ok.funs.mem hb
  exact I.base.free b o ho (I.ok.frf b hb) fun z=>I.ok.exfs b z hb
theorem Inv.step{g':Array GenState}{t':Nat}{d':Drawn}{ch:List Addr}(I:Inv X pins σ H s)
  (hch:∀b∈ch,(b∈X.ex∨X.s₀.heap.objs.size≤b)∧b≠X.env.locals∧(∀x c,X.env.cells.lookup x=some c→c≠b)∧∀p∈X.pn++pins,p.1≠b)
  (keep:∀b o,b≠X.env.locals→b∉X.fs→b∉ch→s.heap.get? b=some o→H b=none→h'.get? b=some o)
  (slot:∀b o,b≠X.env.locals→b∈X.fs→b∉ch→s.heap.get? b=some o→H b=none→∃sl,h'.get? b=some {o with slots:=sl}) (free:∀b o,b∉ch→s.heap.get? b=some o→H b=none→H' b=none)
  (there:∀b o,b∉ch→s.heap.get? b=some o→∃o',h'.get? b=some o')
  (tups:∀b xs,H b=some (.tup xs)→H' b=some (.tup xs)) (frzs:∀b o u,H b=some (.frz o u)→H' b=some (.frz o u)) (tbls:∀b ps,H b=some (.tbl ps)→∃more,H' b=some (.tbl (ps++more)))
  (ns:∀m,s.heap.Ns X.env.locals m→h'.Ns X.env.locals m) (hok:HOk X.prog X.w H' h') (hg:AllBare g'):
  Inv X pins σ H' {s with heap:=h',gens:=g',drawn:=d',toks:=t'}:=by
 have neL:∀b o,X.s₀.heap.get? b=some o→b≠X.env.locals:=fun b o e=>Nat.ne_of_lt (Nat.lt_of_lt_of_le (Aj e) I.ok.above)
 have neC:∀b o,X.s₀.heap.get? b=some o→b∉X.ex→b∉ch:=fun b o e hx hb=>by
  rcases(hch b hb).1 with z | z
  ·exact hx z
  ·exact absurd (Nat.lt_of_lt_of_le (Aj e) z) (Nat.lt_irrefl _)
 have cellK:∀x c,X.env.cells.lookup x=some c→∀v,s.heap.IsCell c v→h'.IsCell c v:=fun x c e v ⟨o,ho,hd⟩=>by
  have nch:c∉ch:=fun z=>(hch c z).2.2.1 x c e rfl
  by_cases hc:c∈X.fs
  ·obtain⟨sl,q⟩:=slot c o (I.cne x c e) hc nch ho (I.freeC x c e)
   exact⟨_,q,hd⟩
  ·exact⟨o,keep c o (I.cne x c e) hc nch ho (I.freeC x c e),hd⟩
 refine⟨I.ok,I.os,hg,⟨fun b o e n hb hx=>?_,fun b o e n hb hx=>?_,fun b o e n hx=>?_,fun b o e hx=>?_,fun b xs e=>tups b xs (I.base.tups b xs e),fun b o xs e=>frzs b o xs (I.base.frzs b o xs e),fun b ps e=>?_⟩,?_,fun x c e=>?_,?_,fun x c e=>?_,fun p hp=>?_,hok,I.len⟩
 ·exact keep b o (neL b o e) hb (neC b o e hx) (I.base.keep b o e n hb hx) (I.base.free b o e n hx)
 ·obtain⟨sl,e1⟩:=I.base.slot b o e n hb hx
  obtain⟨sl',e2⟩:=slot b _ (neL b o e) hb (neC b o e hx) e1 (I.base.free b o e n hx)
  exact⟨sl',e2⟩
 ·obtain⟨o',e1⟩:=I.base.there b o e hx
  exact free b o' (neC b o e hx) e1 (I.base.free b o e n hx)
 ·obtain⟨o',e1⟩:=I.base.there b o e hx
  exact there b o' (neC b o e hx) e1
 ·obtain⟨m1,e1⟩:=I.base.tbls b ps e
  obtain⟨m2,e2⟩:=tbls b _ e1
  exact⟨m1++m2,by rw[e2,Array.append_assoc]⟩
 ·obtain⟨m,hn,hl⟩:=I.loc
  refine⟨m,ns m hn,fun i x v e1 e2 e3=>?_⟩
  obtain⟨u,r,l⟩:=hl i x v e1 e2 e3
  refine⟨u,r,?_⟩
  rcases l with l | ⟨k,c,e,z⟩
  ·exact .inl l
  ·exact .inr ⟨k,c,e,cellK x c e _ z⟩
 ·obtain⟨v,z⟩:=I.cell x c e
  exact⟨v,cellK x c e v z⟩
 ·obtain⟨m,⟨o,_,_,ho,_⟩,_⟩:=I.loc
  exact free _ o (fun z=>(hch _ z).2.1 rfl) ho I.free
 ·obtain⟨v,o,ho,hd⟩:=I.cell x c e
  exact free c o (fun z=>(hch c z).2.2.1 x c e rfl) ho (I.freeC x c e)
 ·obtain⟨e,n,ne,nf,d⟩:=I.pin p hp
  have nch:p.1∉ch:=fun z=>(hch p.1 z).2.2.2 p hp rfl
  exact⟨keep p.1 p.2 ne nf nch e n,free p.1 p.2 nch e n,ne,nf,d⟩
theorem Inv.un{t':Nat}(I:Inv X pins σ H s)(u:Un X.fs [] H H' s.heap h')(hok:HOk X.prog X.w H' h'):Inv X pins σ H' {s with heap:=h',toks:=t'}:=by
 obtain⟨m,⟨o,es,ep,ho,r⟩,_⟩:=id I.loc
 obtain⟨sl,hL⟩:=u.any ho I.free (by simp)
 exact I.step (g':=s.gens) (d':=s.drawn) (ch:=[]) (fun _ z=>nomatch z) (fun b o _ hb _ e n=>u.keep b o e n hb (by simp)) (fun b o _ hb _ e n=>u.slot b o e n hb (by simp)) (fun b o _ e n=>u.free b o e n (by simp)) (fun b o _ e=>u.there b o e (by simp)) u.tups u.frzs u.tbls (fun m' hm=>by
  obtain⟨o',es',ep',ho',r'⟩:=hm
  rw[ho] at ho';cases ho'
  exact⟨_,es',ep',hL,r'⟩) hok I.bare
theorem Inv.call{g':Array GenState}{t':Nat}{d':Drawn}{ch:List Addr}(I:Inv X pins σ H s)(u:Un (frs X.stack) ch H H' s.heap h')(hok:HOk X.prog X.w H' h')(hg:AllBare g')
  (hch:∀b∈ch,(b∈X.ex∨X.s₀.heap.objs.size≤b)∧b≠X.env.locals∧(∀x c,X.env.cells.lookup x=some c→c≠b)∧∀p∈X.pn++pins,p.1≠b):
  Inv X pins σ H' {s with heap:=h',gens:=g',drawn:=d',toks:=t'}:=by
 obtain⟨m,⟨o,es,ep,ho,r⟩,_⟩:=id I.loc
 obtain⟨sl,hL⟩:=u.any ho I.free fun z=>(hch _ z).2.1 rfl
 exact I.step (ch:=ch) hch (fun b o hL hb hc e n=>u.keep b o e n (fun z=>(Aw.mp (I.stkSub b z)).elim hL hb) hc) (fun b o _ _ hc e n=>u.any e n hc) (fun b o hc e n=>u.free b o e n hc) (fun b o hc e=>u.there b o e hc) u.tups u.frzs u.tbls (fun m' hm=>by
  obtain⟨o',es',ep',ho',r'⟩:=hm
  rw[ho] at ho';cases ho'
  exact⟨_,es',ep',hL,r'⟩) hok hg
theorem Inv.turned{t':Nat}{it:Addr}(I:Inv X pins σ H s)(k:∀b o,b≠it→s.heap.get? b=some o→h'.get? b=some o)(hn:H it=none)(hL:it≠X.env.locals)
  (h1:it∈X.ex∨X.s₀.heap.objs.size≤it) (h2:∀x c,X.env.cells.lookup x=some c→c≠it) (h3:∀p∈X.pn++pins,p.1≠it):Inv X pins σ H {s with heap:=h',toks:=t'}:=by
 have nit:∀b u,H b=some u→b≠it:=fun b u e z=>by rw[z,hn] at e;cases e
 refine I.step (g':=s.gens) (d':=s.drawn) (ch:=[it]) (fun b hb=>?_) (fun b o _ _ hc e _=>k b o (fun z=>hc (by simp[z])) e) (fun b o _ _ hc e _=>⟨o.slots,k b o (fun z=>hc (by simp[z])) e⟩) (fun _ _ _ _ n=>n)
  (fun b o hc e=>⟨o,k b o (fun z=>hc (by simp[z])) e⟩) (fun _ _ e=>e) (fun _ _ _ e=>e) (fun b ps e=>⟨#[],by rw[e];simp⟩) (fun m hm=>?_) (fun b u e=>?_) I.bare
 ·have e:b=it:=by simpa using hb
  subst e
  exact⟨h1,hL,h2,h3⟩
 ·obtain⟨o,es,ep,ho,r⟩:=hm
  exact⟨o,es,ep,k _ o (Ch hL) ho,r⟩
 ·refine(I.hok b u e).stay (fun c v hc q=>k c v ?_ q) (fun _ q=>q) fun _ _ q=>q
  rcases hc with z | z
  ·rw[z];exact nit b u e
  ·exact nit c _ z
theorem Inv.tok(I:Inv X pins σ H s)(t:Nat):Inv X pins σ H {s with toks:=t}:=I.un (h':=s.heap) (t':=t) Un.refl I.hok
theorem Inv.kept{t':Nat}(I:Inv X pins σ H s)(k:∀b u,s.heap.get? b=some u→h'.get? b=some u):Inv X pins σ H {s with heap:=h',toks:=t'}:=I.un (Un.kept k) (I.hok.kept k)
theorem Inv.laid{a:Addr}{o:HO}{t':Nat}(I:Inv X pins σ H s)(k:∀b u,s.heap.get? b=some u→h'.get? b=some u)(hp:s.heap.objs.size≤a)(new:X6 X.prog X.w (upd H a o) h' a o):
  Inv X pins σ (upd H a o) {s with heap:=h',toks:=t'}:=I.un (Un.laid k hp (I.hok.fresh hp)) (I.hok.laid k hp new)
theorem Inv.write{x e:Addr}{o:HO}{t':Nat}(I:Inv X pins σ H s)(mu:Mut (H x))(he:e=x∨H e=some (.own x))(k:∀b u,b≠e→s.heap.get? b=some u→h'.get? b=some u)(heo:∃u,h'.get? e=some u)
  (new:X6 X.prog X.w (upd H x o) h' x o):Inv X pins σ (upd H x o) {s with heap:=h',toks:=t'}:=I.un (Un.write mu he k heo) (I.hok.write mu he k heo new)
theorem Inv.pins_of{pins':List (Addr×Obj)}(I:Inv X pins σ H s)(h:∀p∈pins',s.heap.get? p.1=some p.2∧H p.1=none∧p.1≠X.env.locals∧p.1∉X.fs∧∀v,p.2.data≠ .cell v):Inv X pins' σ H s:=
 ⟨I.ok,I.os,I.bare,I.base,I.loc,I.cell,I.free,I.freeC,fun p hp=>(Ho.mp hp).elim (fun z=>I.pin p (List.mem_append_left _ z)) (h p),I.hok,I.len⟩
theorem Ce{N:List Str}(hN:N.Nodup){i j:Nat}{x:Str}(a:N[i]?=some x)(b:N[j]?=some x):i=j:=by
 obtain⟨h1,e1⟩:=Af.mp a
 obtain⟨h2,e2⟩:=Af.mp b
 exact(List.getElem_inj hN).mp (e1.trans e2.symm)
theorem Qv{M:Model}{A:Around}{E:Value→Shared→Prop}{i:Nat}{x:Str}{v:V}{u:Value}{Q:Unit→Shared→Prop}(I:Inv X pins σ H s)(hN:X.N.Nodup)(hi:X.N[i]?=some x)(hx:Loc X.env.scope x)(r:RelV v u)
  (h:∀s',Inv X pins (σ.set i (some v)) H s'→(∃a,Il a s.heap s'.heap∧(a=X.env.locals∨X.env.cells.lookup x=some a))→Q () s') (hf:X.fn x=true∨X.env.scope.names.lookup x=some .local:=by first | exact .inl rfl | exact .inr rfl | assumption):wpAny M A (storeName X.env x u) Q E s:=by
 obtain⟨m,hn,hl⟩:=id I.loc
 have hcls:(X.env.scope.kind== .class || (X.env.scope.kind== .module&&X.env.locals !=X.env.globals))=false:=by rw[I.ok.kind];rfl
 have hiσ:i<σ.length:=by rw[I.len];exact(Af.mp hi).1
 have cne:=I.cne
 have tracked:∀{a:Addr} {h':Heap},(∃o,s.heap.get? a=some o∧H a=none)→Il a s.heap h'→HOk X.prog X.w H h':=fun{a h'} ha hs b ob e=>by
  obtain⟨_,_,hfree⟩:=ha
  refine(I.hok b ob e).stay (fun c w' hc q=>(hs.2 c ?_).trans q) (fun _ q=>q) fun _ _ q=>q
  rintro rfl
  rcases hc with rfl | hc
  ·rw[hfree] at e;cases e
  ·rw[hfree] at hc;cases hc
 rcases hx with hk | hk
 ·refine wpAny_storeName_local hk hn (fun h' hn' hs=>?_) hcls
  obtain⟨oL,_,_,hoL,_⟩:=id hn
  refine h _ ⟨I.ok,I.os,I.bare,⟨fun b o e n hb hx=>?_,fun b o e n hb hx=>?_,I.base.free,fun b o e hx=>?_,I.base.tups,I.base.frzs,I.base.tbls⟩,⟨_,hn',fun j y v' e1 e2 e3=>?_⟩,fun y c e=>?_,I.free,I.freeC,fun p hp=>?_,tracked ⟨oL,hoL,I.free⟩ hs,by simpa using I.len⟩ ⟨_,hs,.inl rfl⟩
  ·exact(hs.2 b (Nat.ne_of_lt (Nat.lt_of_lt_of_le (Aj e) I.ok.above))).trans (I.base.keep b o e n hb hx)
  ·obtain⟨sl,e1⟩:=I.base.slot b o e n hb hx
   exact⟨sl,(hs.2 b (Nat.ne_of_lt (Nat.lt_of_lt_of_le (Aj e) I.ok.above))).trans e1⟩
  ·obtain⟨o',e1⟩:=I.base.there b o e hx
   exact⟨o',(hs.2 b (Nat.ne_of_lt (Nat.lt_of_lt_of_le (Aj e) I.ok.above))).trans e1⟩
  ·by_cases hj:j=i
   ·subst hj
    rw[hi] at e1;cases e1
    rw[Dq hiσ] at e2
    cases e2
    exact⟨u,r,.inl ⟨hk,by simp⟩⟩
   ·rw[Dh (Ch hj)] at e2
    obtain⟨u',r',q⟩:=hl j y v' e1 e2 e3
    refine⟨u',r',?_⟩
    rcases q with⟨k,e⟩ | ⟨k,c,e,z⟩
    ·refine .inl ⟨k,?_⟩
     have:y≠x:=fun e=>hj (Ce hN e1 (e ▸ hi))
     simp[this,e]
    ·exact .inr ⟨k,c,e,z.sameBut hs (cne y c e)⟩
  ·obtain⟨w',z⟩:=I.cell y c e
   exact⟨w',z.sameBut hs (cne y c e)⟩
  ·obtain⟨e,n,ne,nf,d⟩:=I.pin p hp
   exact⟨(hs.2 p.1 ne).trans e,n,ne,nf,d⟩
 ·have hfn:X.fn x=true:=by
   rcases hf with z | z
   ·exact z
   ·rw[z] at hk;cases hk
  obtain⟨c,hc⟩:=I.ok.has x (.inl hk)
  obtain⟨w',z⟩:=I.cell x c hc
  refine wpAny_storeName_cell I.ok.kind hk hc z (fun h' hc' hs=>?_)
  obtain⟨oc,hoc,hocd⟩:=id z
  refine h {s with heap:=h'} ⟨I.ok,I.os,I.bare,⟨fun b o e n hb hx=>?_,fun b o e n hb hx=>?_,I.base.free,fun b o e hx=>?_,I.base.tups,I.base.frzs,I.base.tbls⟩,⟨m,hn.sameBut hs (Ch (cne x c hc)),fun j y v' e1 e2 e3=>?_⟩,fun y c' e=>?_,I.free,I.freeC,fun p hp=>?_,tracked ⟨oc,hoc,I.freeC x c hc⟩ hs,by simpa using I.len⟩ ⟨c,hs,.inr hc⟩
  ·exact(hs.2 b (Nat.ne_of_lt (Nat.lt_of_lt_of_le (Aj e) (I.ok.cab x c hfn hc)))).trans (I.base.keep b o e n hb hx)
  ·obtain⟨sl,e1⟩:=I.base.slot b o e n hb hx
   exact⟨sl,(hs.2 b (Nat.ne_of_lt (Nat.lt_of_lt_of_le (Aj e) (I.ok.cab x c hfn hc)))).trans e1⟩
  ·obtain⟨o',e1⟩:=I.base.there b o e hx
   exact⟨o',(hs.2 b (Nat.ne_of_lt (Nat.lt_of_lt_of_le (Aj e) (I.ok.cab x c hfn hc)))).trans e1⟩
  ·by_cases hj:j=i
   ·subst hj
    rw[hi] at e1;cases e1
    rw[Dq hiσ] at e2
    cases e2
    exact⟨u,r,.inr ⟨.inl hk,c,hc,hc'⟩⟩
   ·rw[Dh (Ch hj)] at e2
    obtain⟨u',r',q⟩:=hl j y v' e1 e2 e3
    refine⟨u',r',?_⟩
    rcases q with q | ⟨k,c',e,z'⟩
    ·exact .inl q
    ·refine .inr ⟨k,c',e,z'.sameBut hs ?_⟩
     rintro rfl
     exact hj (Ce hN e1 (I.ok.inj _ _ _ e hc ▸ hi))
  ·by_cases hcc:c'=c
   ·subst hcc;exact⟨_,hc'⟩
   ·obtain⟨w2,z2⟩:=I.cell y c' e
    exact⟨w2,z2.sameBut hs hcc⟩
  ·obtain⟨e,n,ne,nf,d⟩:=I.pin p hp
   refine⟨(hs.2 p.1 ?_).trans e,n,ne,nf,d⟩
   intro q
   rw[q,hoc] at e
   have q':oc=p.2:=Dw e
   exact d w' (by rw[←q'];exact hocd)
theorem B4{M:Model}{A:Around}{E:Value→Shared→Prop}{i:Nat}{x:Str}{v:V}{u:Value}{Q:Unit→Shared→Prop}(I:Inv X pins σ H s)(hN:X.N.Nodup)(hi:X.N[i]?=some x)(hx:Loc X.env.scope x)(r:RelV v u)
  (h:∀s',Inv X pins (σ.set i (some v)) H s'→Q () s') (hf:X.fn x=true∨X.env.scope.names.lookup x=some .local:=by first | exact .inl rfl | exact .inr rfl | assumption):wpAny M A (storeName X.env x u) Q E s:=
 Qv I hN hi hx r (fun s' I' _=>h s' I') hf
theorem Inv.call'{s':Shared}{ch:List Addr}(I:Inv X pins σ H s)(ho:s'.os=s.os)(u:Un (frs X.stack) ch H H' s.heap s'.heap)(hok:HOk X.prog X.w H' s'.heap)(hg:AllBare s'.gens)
  (hch:∀b∈ch,(b∈X.ex∨X.s₀.heap.objs.size≤b)∧b≠X.env.locals∧(∀x c,X.env.cells.lookup x=some c→c≠b)∧∀p∈X.pn++pins,p.1≠b):Inv X pins σ H' s':=by
 obtain⟨h',g',d',t',o'⟩:=s'
 have e:o'=s.os:=ho
 subst e
 exact I.call (g':=g') (t':=t') (d':=d') u hok hg hch
end
abbrev XK:=Value→Option Addr→Hp→Prop
noncomputable abbrev St:=List (Option V)
abbrev VK:=V→Hp→Prop
abbrev TE:=St→Hp→VK→Prop
abbrev TT:=St→Hp→(Bool→Hp→Prop)→Prop
abbrev TA:=St→Hp→(List V→Hp→Prop)→Prop
structure Ends where
 nx:St→Hp→Prop
 rt:VK
 bk:St→Hp→Prop:=fun _ _=>False
 ct:St→Hp→Prop:=fun _ _=>False
abbrev TS:=Ends→St→Hp→Prop
def EP(X:Cx)(pins:List (Addr×Obj))(σ:St)(Q:VK)(u:Value)(s':Shared):Prop:=∃v H',Inv X pins σ H' s'∧RelV v u∧Q v H'
def TP(X:Cx)(pins:List (Addr×Obj))(σ:St)(Q:Bool→Hp→Prop)(b:Bool)(s':Shared):Prop:=∃H',Inv X pins σ H' s'∧Q b H'
def AP(X:Cx)(pins:List (Addr×Obj))(σ:St)(Q:List V→Hp→Prop)(us:List Value)(s':Shared):Prop:=∃vs H',Inv X pins σ H' s'∧Vals vs us∧Q vs H'
def SP(X:Cx)(pins:List (Addr×Obj))(D:Ends)(f:Flow)(s':Shared):Prop:=
 match f with
 | .next=>∃σ' H',Inv X pins σ' H' s'∧D.nx σ' H'
 | .brk=>∃σ' H',Inv X pins σ' H' s'∧D.bk σ' H'
 | .cont=>∃σ' H',Inv X pins σ' H' s'∧D.ct σ' H'
 | .ret u=>∃v σ' H',Inv X pins σ' H' s'∧RelV v u∧D.rt v H'
def PE(X:Cx)(e:Expr)(t:TE):Prop:=
 ∀(pins:List (Addr×Obj)) (s:Shared) (σ:St) (H:Hp) (Q:VK),Inv X pins σ H s→t σ H Q→wpAny (model X.prog X.w) X.A (eval e X.env) (EP X pins σ Q) X.xe s
def PT(X:Cx)(e:Expr)(t:TT):Prop:=
 ∀(pins:List (Addr×Obj)) (s:Shared) (σ:St) (H:Hp) (Q:Bool→Hp→Prop),Inv X pins σ H s→t σ H Q→wpAny (model X.prog X.w) X.A (isTrue e X.env (eval e X.env)) (TP X pins σ Q) X.xe s
def PW(X:Cx)(e:Expr)(t:TT):Prop:=
 ∀(whole:Sem Value) (pins:List (Addr×Obj)) (s:Shared) (σ:St) (H:Hp) (Q:Bool→Hp→Prop),Inv X pins σ H s→t σ H Q→wpAny (model X.prog X.w) X.A (isTrue e X.env whole) (TP X pins σ Q) X.xe s
theorem PW.pt{X:Cx}{e:Expr}{t:TT}(h:PW X e t):PT X e t:=h _
def PA(X:Cx)(es:List Expr)(t:TA):Prop:=
 ∀(pos:Pos) (pins:List (Addr×Obj)) (s:Shared) (σ:St) (H:Hp) (Q:List V→Hp→Prop),Inv X pins σ H s→t σ H Q→wpAny (model X.prog X.w) X.A (spliced (backTo pos (starEach es X.env))) (AP X pins σ Q) X.xe s
def PS(X:Cx)(st:Stmt)(t:TS):Prop:=
 ∀(pins:List (Addr×Obj)) (s:Shared) (σ:St) (H:Hp) (D:Ends),Inv X pins σ H s→t D σ H→wpAny (model X.prog X.w) X.A (exec st X.env) (SP X pins D) X.xe s
def PSs(X:Cx)(st:List Stmt)(t:TS):Prop:=
 ∀(pins:List (Addr×Obj)) (s:Shared) (σ:St) (H:Hp) (D:Ends),Inv X pins σ H s→t D σ H→wpAny (model X.prog X.w) X.A (execs st X.env) (SP X pins D) X.xe s
theorem thn{α:Type}{t:Sem α}{Q Q':α→Shared→Prop}{M:Model}{A:Around}{E:Value→Shared→Prop}{s:Shared}(h:wpAny M A t Q E s)(hQ:∀a s,Q a s→Q' a s):wpAny M A t Q' E s:=Dv h hQ fun _ _ x=>x
section
variable{X:Cx}
theorem bin{a b:Expr}{ta tb:TE}(ha:PE X a ta)(hb:PE X b tb){pins:List (Addr×Obj)}{s:Shared}{σ:St}{H:Hp}{R:V→V→Hp→Prop}(I:Inv X pins σ H s)(h:ta σ H fun x H1=>tb σ H1 fun y H2=>R x y H2)
  {α:Type} {Q:α→Shared→Prop} {f:Value→Value→Sem α}
  (hf:∀v u s2 x y H2,Inv X pins σ H2 s2→RelV x v→RelV y u→R x y H2→wpAny (model X.prog X.w) X.A (f v u) Q X.xe s2):
  wpAny (model X.prog X.w) X.A (eval a X.env) (fun v s₁=>wpAny (model X.prog X.w) X.A (eval b X.env) (fun u s₂=>wpAny (model X.prog X.w) X.A (f v u) Q X.xe s₂) X.xe s₁) X.xe s:=by
 refine thn (ha pins s σ H _ I h) fun v s1 zz2=>?_
 obtain⟨x,H1,I1,r1,q1⟩:=zz2
 refine thn (hb pins s1 σ H1 _ I1 q1) fun u s2 zz3=>?_
 obtain⟨y,H2,I2,r2,q2⟩:=zz3
 exact hf v u s2 x y H2 I2 r1 r2 q2
def tVar(i:Nat):TE:=fun σ H Q=>∃v,σ[i]?=some (some v)∧Q v H
def tC(v:V):TE:=fun _ H Q=>Q v H
theorem Zd9{i:Nat}{x:Str}{pos:Pos}(hN:X.N[i]?=some x)(hv:Vis X.env.scope x)(hd:(x==("__debug__":Str))=false:=by decide)(hcd:(x==("__classdict__":Str))=false:=by decide):PE X (.Name x pos) (tVar i):=by
 intro pins s σ H Q I h
 obtain⟨v,e,h⟩:=h
 obtain⟨m,hn,hl⟩:=I.loc
 obtain⟨u,r,l⟩:=hl i x v hN e hv
 have fin:EP X pins σ Q u s:=⟨v,H,I,r,h⟩
 rcases l with⟨hk,hm⟩ | ⟨hk,c,hc,hcell⟩
 ·exact wpAny_Name (wpAny_loadName_local I.ok.kind hk hn hm fin) hd
 ·rcases hk with hk | hk
  ·exact wpAny_Name (wpAny_loadName_cell I.ok.kind hk hc hcell fin) hd
  ·exact wpAny_Name (wpAny_loadName_free I.ok.kind hk hc hcell fin hcd) hd
theorem Y76{i j pos}:PE X (.Constant (.int i) j pos) (tC (.int i)):=fun _ _ _ H _ I h=>wpAny_Constant_int ⟨.int i,H,I.tok _,⟨_,rfl⟩,h⟩
theorem Yg6{b j pos}:PE X (.Constant (.bool b) j pos) (tC (.bl b)):=fun _ _ _ H _ I h=>Constant_bool ⟨.bl b,H,I,rfl,h⟩
theorem Y44{j pos}:PE X (.Constant .none j pos) (tC .non):=fun _ _ _ H _ I h=>Constant_none ⟨.non,H,I,rfl,h⟩
theorem Y68{x j pos}:PE X (.Constant (.str x) j pos) (tC (.str x)):=fun _ _ _ H _ I h=>Calls.Constant_str ⟨.str x,H,I.tok _,⟨_,rfl⟩,h⟩
def Gl(X:Cx)(x:Str):Prop:=X.env.kindOf x=some .globalImplicit
theorem Vs{E:Value→Shared→Prop}{pins:List (Addr×Obj)}{s:Shared}{σ:St}{H:Hp}{x:Str}{u:Value}{pos:Pos}{Q:Value→Shared→Prop}(I:Inv X pins σ H s)(hg:Gl X x)(hm:X.mg x=some u)(h:Q u s)
  (hd:(x==("__debug__":Str))=false:=by decide):wpAny (model X.prog X.w) X.A (eval (.Name x pos) X.env) Q E s:=
 Calls.Name_function_global I.ok.kind hg (Calls.loadGlobal_global (by rw[I.ok.glob];exact I.mod.glob.keeps I.bk) hm h) hd
theorem Rj{E:Value→Shared→Prop}{pins:List (Addr×Obj)}{s:Shared}{σ:St}{H:Hp}{x:Str}{u:Value}{pos:Pos}{Q:Value→Shared→Prop}(I:Inv X pins σ H s)(hg:Gl X x)(hm:X.mg x=none)(hv:bootBuiltins x=some u)(h:Q u s)
  (hn:x≠"__name__":=by decide) (hd:(x==("__debug__":Str))=false:=by decide):wpAny (model X.prog X.w) X.A (eval (.Name x pos) X.env) Q E s:=by
 obtain⟨mb,h1,h2⟩:=I.mod.blt
 exact Calls.Name_function_global I.ok.kind hg (Calls.loadGlobal_builtin (by rw[I.ok.glob];exact I.mod.glob.keeps I.bk) hm (by rw[I.ok.blt];exact h1.keeps I.bk) ((h2 x hn).trans hv) h) hd
theorem Zz1{x:Str}{v:V}{u:Value}{pos:Pos}(hg:Gl X x)(hm:X.mg x=some u)(r:RelV v u)(hd:(x==("__debug__":Str))=false:=by decide):PE X (.Name x pos) (tC v):=
 fun _ _ _ H _ I h=>Vs I hg hm ⟨v,H,I,r,h⟩ hd
theorem Zw1{x:Str}{v:V}{u:Value}{pos:Pos}(hg:Gl X x)(hm:X.mg x=none)(hv:bootBuiltins x=some u)(r:RelV v u)(hn:x≠"__name__":=by decide)(hd:(x==("__debug__":Str))=false:=by decide):PE X (.Name x pos) (tC v):=
 fun _ _ _ H _ I h=>Rj I hg hm hv ⟨v,H,I,r,h⟩ hn hd
variable{a b:Expr}{ta tb:TE}{pos:Pos}
variable{tA tB':TT}{rest:List Expr}
def tAnd(t u:TT):TT:=fun σ H Q=>t σ H fun c H1=>if c=true then u σ H1 Q else Q false H1
def tOr(t u:TT):TT:=fun σ H Q=>t σ H fun c H1=>if c=true then Q true H1 else u σ H1 Q
def tNot(t:TT):TT:=fun σ H Q=>t σ H fun c H1=>Q (!c) H1
theorem Zu8(ha:PT X a tA):PW X (.BoolOp .And [a] pos) tA:=by
 intro wh pins s σ H Q I h
 refine isTrue_and (thn (ha pins s σ H Q I h) fun c s1 e=>?_)
 cases c with
 | true=>exact isTrue_and_nil e
 | false=>exact e
theorem Ya6(ha:PT X a tA):PW X (.BoolOp .Or [a] pos) tA:=by
 intro wh pins s σ H Q I h
 refine isTrue_or (thn (ha pins s σ H Q I h) fun c s1 e=>?_)
 cases c with
 | false=>exact isTrue_or_nil e
 | true=>exact e
theorem Y96(ha:PT X a tA)(hb:PW X (.BoolOp .And (b::rest) pos) tB'):PW X (.BoolOp .And (a::b::rest) pos) (tAnd tA tB'):=by
 intro wh pins s σ H Q I h
 refine isTrue_and (thn (ha pins s σ H _ I h) fun c s1 zz4=>?_)
 obtain⟨H1,I1,q1⟩:=zz4
 cases c with
 | true=>exact hb wh pins s1 σ H1 Q I1 q1
 | false=>exact⟨H1,I1,q1⟩
theorem Yd8(ha:PT X a tA)(hb:PW X (.BoolOp .Or (b::rest) pos) tB'):PW X (.BoolOp .Or (a::b::rest) pos) (tOr tA tB'):=by
 intro wh pins s σ H Q I h
 refine isTrue_or (thn (ha pins s σ H _ I h) fun c s1 zz5=>?_)
 obtain⟨H1,I1,q1⟩:=zz5
 cases c with
 | true=>exact⟨H1,I1,q1⟩
 | false=>exact hb wh pins s1 σ H1 Q I1 q1
theorem Y74(ha:PT X a tA):PT X (.UnaryOp .Not a pos) (tNot tA):=by
 intro pins s σ H Q I h
 exact isTrue_not (ha pins s σ H (fun c H1=>Q (!c) H1) I h)
theorem Y75{op}{t:TE}(h:PE X a t):PE X (.BoolOp op [a] pos) t:=fun pins s σ H Q I hw=>BoolOp_one (h pins s σ H Q I hw)
def tIf(t:TT)(ta tb:TE):TE:=fun σ H Q=>t σ H fun c H1=>if c=true then ta σ H1 Q else tb σ H1 Q
theorem Zo3{c:Expr}(hc:PT X c tA)(ha:PE X a ta)(hb:PE X b tb):PE X (.IfExp c a b pos) (tIf tA ta tb):=by
 intro pins s σ H Q I h
 refine wpAny_IfExp (thn (hc pins s σ H _ I h) fun d s1 zz6=>?_)
 obtain⟨H1,I1,q1⟩:=zz6
 cases d with
 | true=>exact ha pins s1 σ H1 Q I1 q1
 | false=>exact hb pins s1 σ H1 Q I1 q1
end
def SqL(K:Ab)(H:Hp)(a:Addr)(xs:List V):Prop:=
 Rd H a (.lst xs)∨
  ∃(o:Obj) (its:Array Value) (n:Nat),K.lookup a=some o∧o.cls= .type "list"∧o.dict=none∧o.data= .seq its n∧its.size≤sizeLine∧Vals xs its.toList
def SqT(K:Ab)(H:Hp)(a:Addr)(xs:List V):Prop:=
 Rd H a (.tup xs)∨
  ∃(o:Obj) (its:Array Value) (n:Nat),K.lookup a=some o∧o.cls= .type "tuple"∧o.data= .seq its n∧its.size≤sizeLine∧Vals xs its.toList
noncomputable def absV:Value→Option V
 | .none=>some .non
 | .bool b=>some (.bl b)
 | .int i _=>some (.int i)
 | .str x _=>some (.str x)
 | .bytes b _=>some (.byt b)
 | .float b _=>some (.flt b)
 | .ref a=>some (.ref a)
 | .type n=>some (.ty n)
 | _=>none
theorem RelV.abs{x:V}{u:Value}(r:RelV x u):absV u=some x:=by
 cases x with
 | non=>cases r;rfl
 | bl _=>cases r;rfl
 | int _=>obtain⟨t,rfl⟩:=r;rfl
 | str _=>obtain⟨t,rfl⟩:=r;rfl
 | byt _=>obtain⟨t,rfl⟩:=r;rfl
 | flt _=>obtain⟨t,rfl⟩:=r;rfl
 | ref _=>cases r;rfl
 | ty _=>cases r;rfl
theorem RelV.inj{x y:V}{u:Value}(r:RelV x u)(q:RelV y u):x=y:=Dw (r.abs.symm.trans q.abs)
theorem Vals.inj:∀{xs ys:List V} {us:List Value},Vals xs us→Vals ys us→xs=ys
 | _,_,_,.nil,.nil=>rfl
 | _,_,_,.cons r t,.cons r' t'=>by rw[r.inj r',Vals.inj t t']
section
variable{X:Cx}{pins:List (Addr×Obj)}{σ:St}{H:Hp}{s:Shared}{a:Addr}{xs ys:List V}
theorem SqT.of{K:Ab}(h:H a=some (.tup xs)):SqT K H a xs:= .inl (.inl h)
theorem Inv.list(I:Inv X pins σ H s)(h:SqL X.K H a xs):∃its:List Value,Vals xs its∧PlainL s.heap a its.toArray∧xs.length≤sizeLine:=by
 rcases h with h | ⟨o,its,n,hk,hc,hd,hs,hz,r⟩
 ·obtain⟨z,its,n,r,e⟩:=h.ok I.hok
  exact⟨its,r,⟨_,n,e,rfl,rfl,rfl⟩,z⟩
 ·refine⟨its.toList,r,⟨o,n,I.kIn a o hk,hc,hd,by simpa using hs⟩,?_⟩
  have e:=r.length
  simp only[Ku] at e
  omega
theorem Inv.tuple(I:Inv X pins σ H s)(h:SqT X.K H a xs):∃its:List Value,Vals xs its∧IsTup s.heap a its.toArray∧xs.length≤sizeLine:=by
 rcases h with h | ⟨o,its,n,hk,hc,hs,hz,r⟩
 ·obtain⟨z,its,r,p⟩:=h.ok I.hok
  exact⟨its,r,p,z⟩
 ·refine⟨its.toList,r,⟨o,I.kIn a o hk,hc,n,by simpa using hs⟩,?_⟩
  have e:=r.length
  simp only[Ku] at e
  omega
theorem Inv.list_inj(I:Inv X pins σ H s)(h:SqL X.K H a xs)(h':SqL X.K H a ys):xs=ys:=by
 obtain⟨its,r,⟨o,n,e,_,_,d⟩,_⟩:=I.list h
 obtain⟨its',r',⟨o',n',e',_,_,d'⟩,_⟩:=I.list h'
 rw[e] at e';cases e'
 rw[d] at d'
 injection d' with d1 _
 have:its=its':=by simpa using congrArg Array.toList d1
 subst this
 exact r.inj r'
theorem Inv.tuple_inj(I:Inv X pins σ H s)(h:SqT X.K H a xs)(h':SqT X.K H a ys):xs=ys:=by
 obtain⟨its,r,⟨o,e,_,n,d⟩,_⟩:=I.tuple h
 obtain⟨its',r',⟨o',e',_,n',d'⟩,_⟩:=I.tuple h'
 rw[e] at e';cases e'
 rw[d] at d'
 injection d' with d1 _
 have:its=its':=by simpa using congrArg Array.toList d1
 subst this
 exact r.inj r'
end
abbrev Cx.wish(X:Cx)(E:Value→Shared→Prop):Cx:={X with xe:=E}
noncomputable abbrev Cx.nox(X:Cx):Cx:=X.wish fun _ _=>False
theorem Cx.Ok.wish{X:Cx}(ok:X.Ok)(E:Value→Shared→Prop):(X.wish E).Ok:=
 ⟨ok.mod,ok.kind,ok.glob,ok.blt,ok.above,ok.inj,ok.has,ok.cab,ok.hd,ok.frames,ok.stk,ok.exf,ok.bs,ok.bsz,ok.noex,ok.exfs,ok.funs,ok.frf⟩
theorem Cx.Ok.unwish{X:Cx}{E:Value→Shared→Prop}(ok:(X.wish E).Ok):X.Ok:=
 ⟨ok.mod,ok.kind,ok.glob,ok.blt,ok.above,ok.inj,ok.has,ok.cab,ok.hd,ok.frames,ok.stk,ok.exf,ok.bs,ok.bsz,ok.noex,ok.exfs,ok.funs,ok.frf⟩
section
variable{X:Cx}{pins:List (Addr×Obj)}{σ:St}{H:Hp}{s:Shared}{E:Value→Shared→Prop}
theorem Inv.wish(I:Inv X pins σ H s)(E:Value→Shared→Prop):Inv (X.wish E) pins σ H s:=⟨I.ok.wish E,I.os,I.bare,I.base,I.loc,I.cell,I.free,I.freeC,I.pin,I.hok,I.len⟩
theorem Inv.unwish(I:Inv (X.wish E) pins σ H s):Inv X pins σ H s:=⟨I.ok.unwish,I.os,I.bare,I.base,I.loc,I.cell,I.free,I.freeC,I.pin,I.hok,I.len⟩
theorem SP.unwish{D:Ends}{f:Flow}{s':Shared}(h:SP (X.wish E) pins D f s'):SP X pins D f s':=by
 cases f with
 | next=>obtain⟨σ',H',I,q⟩:=h;exact⟨σ',H',I.unwish,q⟩
 | brk=>obtain⟨σ',H',I,q⟩:=h;exact⟨σ',H',I.unwish,q⟩
 | cont=>obtain⟨σ',H',I,q⟩:=h;exact⟨σ',H',I.unwish,q⟩
 | ret u=>obtain⟨v,σ',H',I,r,q⟩:=h;exact⟨v,σ',H',I.unwish,r,q⟩
theorem PSs.nox{st:List Stmt}{t:TS}(h:PSs X.nox st t):PSs X st t:=fun pins s σ H D I hw=>
 Dv (h pins s σ H D (I.wish _) hw) (fun _ _ q=>q.unwish) fun _ _ z=>De z
end
section
variable{X:Cx}{st:Stmt}{rest:List Stmt}{t u:TS}{e:Expr}{te:TE}{pos:Pos}
def Yf6:TS:=fun D σ H=>D.nx σ H
def tSeq(t u:TS):TS:=fun D σ H=>t {D with nx:=u D} σ H
theorem Zd1:PSs X [] Yf6:=fun _ _ σ H _ I h=>La ⟨σ,H,I,h⟩
theorem Ev(h1:PS X st t)(h2:PSs X rest u):PSs X (st::rest) (tSeq t u):=by
 intro pins s σ H D I h
 refine wpAny_execs_cons (thn (h1 pins s σ H {D with nx:=u D} I h) fun f s1 q=>?_)
 cases f with
 | next=>
  obtain⟨σ',H',I',q⟩:=q
  exact h2 pins s1 σ' H' D I' q
 | ret v=>exact q
 | brk=>exact q
 | cont=>exact q
theorem Inv.quiet{pins:List (Addr×Obj)}{σ:St}{H:Hp}{s:Shared}(I:Inv X pins σ H s):interactive X.env=false:=by simp[interactive,I.ok.kind]
def Ye6(te:TE):TS:=fun D σ H=>te σ H fun _ H1=>D.nx σ H1
theorem Zx4(he:PE X e te)(hs:swapsWith e none pos.line X.env=pure false:=by rfl):PS X (.Expr e pos) (Ye6 te):=by
 intro pins s σ H D I h
 exact wpAny_Expr_any (thn (he pins s σ H _ I h) fun v s1 zz7=>by obtain⟨x,H1,I1,r1,q1⟩:=zz7;exact⟨σ,H1,I1,q1⟩) I.quiet hs
def tRet(te:TE):TS:=fun D σ H=>te σ H D.rt
theorem Y69(he:PE X e te):PS X (.Return (some e) pos) (tRet te):=by
 intro pins s σ H D I h
 exact wpAny_Return_some (thn (he pins s σ H _ I h) fun v s1 zz8=>by obtain⟨x,H1,I1,r1,q1⟩:=zz8;exact⟨x,σ,H1,I1,r1,q1⟩)
def tIfS(c:TT)(t u:TS):TS:=fun D σ H=>c σ H fun b H1=>if b=true then t D σ H1 else u D σ H1
theorem Yh2{c:Expr}{a b:List Stmt}{tc:TT}(hc:PT X c tc)(ha:PSs X a t)(hb:PSs X b u):PS X (.If c a b pos) (tIfS tc t u):=by
 intro pins s σ H D I h
 refine wpAny_If (thn (hc pins s σ H _ I h) fun d s1 zz9=>?_)
 obtain⟨H1,I1,q1⟩:=zz9
 cases d with
 | true=>exact ha pins s1 σ H1 D I1 q1
 | false=>exact hb pins s1 σ H1 D I1 q1
def Y81:TS:=fun _ _ _=>False
theorem B2:PS X st Y81:=fun _ _ _ _ _ _ h=>h.elim
end
abbrev TG:=V→St→Hp→(St→Hp→Prop)→Prop
abbrev TGs:=List V→St→Hp→(St→Hp→Prop)→Prop
def PG(X:Cx)(target:Expr)(t:TG):Prop:=
 ∀(pins:List (Addr×Obj)) (s:Shared) (σ:St) (H:Hp) (v:V) (u:Value) (Q:St→Hp→Prop),Inv X pins σ H s→RelV v u→t v σ H Q→
  wpAny (model X.prog X.w) X.A (assign target X.env u) (fun _ s'=>∃σ' H',Inv X pins σ' H' s'∧Q σ' H') X.xe s
def PGs(X:Cx)(ts:List Expr)(t:TGs):Prop:=
 ∀(pins:List (Addr×Obj)) (s:Shared) (σ:St) (H:Hp) (vs:List V) (us:List Value) (Q:St→Hp→Prop),Inv X pins σ H s→Vals vs us→t vs σ H Q→
  wpAny (model X.prog X.w) X.A (assignInOrder ((assignEach ts X.env).map (·.2)) us) (fun _ s'=>∃σ' H',Inv X pins σ' H' s'∧Q σ' H') X.xe s
abbrev TSet:=V→V→V→Hp→(Hp→Prop)→Prop
def PSet(X:Cx)(t:TSet):Prop:=
 ∀(pins:List (Addr×Obj)) (s:Shared) (σ:St) (H:Hp) (o i v:V) (ov iv u:Value) (Q:Hp→Prop),Inv X pins σ H s→RelV o ov→RelV i iv→RelV v u→t o i v H Q→
  wpAny (model X.prog X.w) X.A (setItem ov iv u) (fun _ s'=>∃H',Inv X pins σ H' s'∧Q H') X.xe s
section
variable{X:Cx}{pos:Pos}
noncomputable def Zb2(i:Nat):TG:=fun v σ H Q=>Q (σ.set i (some v)) H
theorem Zf5{i:Nat}{x:Str}(hN:X.N.Nodup)(hi:X.N[i]?=some x)(hx:Loc X.env.scope x)(hf:X.fn x=true∨X.env.scope.names.lookup x=some .local:=by first | exact .inl rfl | exact .inr rfl | assumption):PG X (.Name x pos) (Zb2 i):=by
 intro pins s σ H v u Q I r h
 exact wpAny_assign_Name (B4 I hN hi hx r (fun s' I'=>⟨_,H,I',h⟩) hf)
noncomputable def gNil:TGs:=fun vs σ H Q=>vs=[]∧Q σ H
noncomputable def Yc9(t:TG)(u:TGs):TGs:=fun vs σ H Q=>∃v r,vs=v::r∧t v σ H fun σ' H'=>u r σ' H' Q
theorem Zu0:PGs X [] gNil:=by
 intro pins s σ H vs us Q I r h
 obtain⟨e,h⟩:=h
 subst e
 cases r
 exact assignInOrder_nil ⟨σ,H,I,h⟩
theorem Zj5{e:Expr}{es:List Expr}{t:TG}{u:TGs}(h1:PG X e t)(h2:PGs X es u)
  (hs:(assignEach (e::es) X.env).map (·.2)=assign e X.env::(assignEach es X.env).map (·.2):=by rfl):PGs X (e::es) (Yc9 t u):=by
 intro pins s σ H vs us Q I r h
 obtain⟨v,vr,e1,h⟩:=h
 subst e1
 cases r with
 | cons r rr=>
  rw[hs]
  refine assignInOrder_cons (thn (h1 pins s σ H _ _ _ I r h) fun _ s1 zz10=>?_)
  obtain⟨σ1,H1,I1,q1⟩:=zz10
  exact h2 pins s1 σ1 H1 _ _ Q I1 rr q1
noncomputable def gTup(K:Ab)(n:Nat)(t:TGs):TG:=fun v σ H Q=>∃a xs,v= .ref a∧SqT K H a xs∧xs.length=n∧t xs σ H Q
theorem Y83{es:List Expr}{k:Nat}{t:TGs}{n:Nat}(hc:X.calm=true)(h:PGs X es t)
  (hn:(assignEach es X.env).length=n:=by rfl) (hst:(assignEach es X.env).findIdx? (·.1)=none:=by rfl):PG X (.Tuple es k pos) (gTup X.K n t):=by
 intro pins s σ H v u Q I r hw
 obtain⟨a,xs,e1,hq,hl,hw⟩:=hw
 subst e1
 cases r
 obtain⟨its,rv,ht,hz⟩:=I.tuple hq
 refine assign_Tuple_tuple (I.ok.hd hc) ht (by simp[hn,←hl,rv.length]) hst fun h' hx=>?_
 have I1:Inv X pins σ H {s with heap:=h'}:=I.kept (t':=s.toks) fun b o e=>hx b o (Nat.ne_of_lt (Aj e)) e
 exact h pins _ σ H xs _ Q I1 (by simpa using rv) hw
def tAsg(te:TE)(g:TG):TS:=fun D σ H=>te σ H fun x H1=>g x σ H1 D.nx
theorem Zq3{tg e:Expr}{te:TE}{g:TG}(he:PE X e te)(hg:PG X tg g)(hs:swapsWithSole [tg] e pos.line X.env=pure false:=by rfl)(hw:swappedStores [tg] e X.env=pure none:=by rfl)
  (h1:(assignEach [tg] X.env).map (·.2)=[assign tg X.env]:=by rfl):PS X (.Assign [tg] e pos) (tAsg te g):=by
 intro pins s σ H D I h
 refine wpAny_Assign_stores (thn (he pins s σ H _ I h) fun v s1 zz11=>?_) hs hw
 obtain⟨x,H1,I1,r1,q1⟩:=zz11
 rw[h1]
 exact thn (hg pins s1 σ H1 x v _ I1 r1 q1) fun _ s2 q=>q
end
section
variable{X:Cx}{pos:Pos}
def Zp9(c:TT)(tb:TS):TS:=fun D σ H=>∃W:Nat→St→Hp→Prop,(∃m,W m σ H)∧∀m σ H,W m σ H→
 c σ H fun b H1=>if b=true then ∃N:St→Hp→Prop,(∀σ' H',N σ' H'→∃m',m'<m∧W m' σ' H')∧tb {D with nx:=N,ct:=N,bk:=D.nx} σ H1 else D.nx σ H1
theorem Zj6{c:Expr}{body:List Stmt}{tc:TT}{tb:TS}(hp:PassesOwn (model X.prog X.w) X.A X.env X.xe)(hc:PT X c tc)(hb:PSs X body tb):PS X (.While c body [] pos) (Zp9 tc tb):=by
 intro pins s σ H D I h
 obtain⟨W,⟨m0,w0⟩,turn⟩:=h
 refine wpAny_While (codeAny_whileLoop (fun n s'=>∃σ' H',Inv X pins σ' H' s'∧W n σ' H') ?_ m0 ⟨σ,H,I,w0⟩)
 rintro n s1 ⟨σ1,H1,I1,w1⟩
 refine Kc hp (thn (hc pins s1 σ1 H1 _ I1 (turn n σ1 H1 w1)) fun b s2 zz12=>?_)
 obtain⟨H2,I2,q2⟩:=zz12
 cases b with
 | true=>
  obtain⟨N,hN,q2⟩:=q2
  rw[if_pos rfl]
  refine Kc hp (thn (hb pins s2 σ1 H2 _ I2 q2) fun f s3 q3=>?_)
  cases f with
  | next=>
   obtain⟨σ3,H3,I3,n3⟩:=q3
   obtain⟨m',hm,w3⟩:=hN σ3 H3 n3
   exact⟨m',hm,σ3,H3,I3,w3⟩
  | cont=>
   obtain⟨σ3,H3,I3,n3⟩:=q3
   obtain⟨m',hm,w3⟩:=hN σ3 H3 n3
   exact⟨m',hm,σ3,H3,I3,w3⟩
  | brk=>exact q3
  | ret v=>exact q3
 | false=>
  rw[if_neg Bool.false_ne_true]
  exact La ⟨σ1,H2,I2,q2⟩
end
structure It where
 go:Nat→Hp→Prop
 yld:Nat→Hp→V→Hp→Prop
 stop:Nat→Hp→Prop
def FpOk(X:Cx)(pins:List (Addr×Obj))(H:Hp)(b:Addr):Prop:=
 H b=none∧b≠X.env.locals∧b∉X.fs∧(b∈X.ex∨X.s₀.heap.objs.size≤b)∧(∀x c,X.env.cells.lookup x=some c→c≠b)∧∀p∈X.pn++pins,p.1≠b
theorem Inv.fpOk{X:Cx}{pins:List (Addr×Obj)}{σ:St}{H H':Hp}{s:Shared}{b:Addr}(I:Inv X pins σ H s)(hb:s.heap.objs.size≤b)(hn:H' b=none):FpOk X pins H' b:=by
 refine⟨hn,Nat.ne_of_gt (Nat.lt_of_lt_of_le I.lt hb),I.nofs hb,.inr (Nat.le_trans I.sz hb),fun x c e z=>?_,fun p hp z=>?_⟩
 ·obtain⟨v,q⟩:=I.cell x c e
  exact absurd (Nat.lt_of_lt_of_le q.lt (by rw[z];exact hb)) (Nat.lt_irrefl _)
 ·exact absurd (Nat.lt_of_lt_of_le (Aj (I.pin p hp).1) (by rw[z];exact hb)) (Nat.lt_irrefl _)
structure Turn(P:Program)(w:World)(K:Ab)(tg:Expr)(J:It)(fp:List Addr)(it:Addr)(tn:Nat→Heap→Prop):Prop where
 mem:it∈fp
 obj:∀i h,tn i h→∀b∈fp,∃o,h.get? b=some o∧∀v,o.data≠ .cell v
 keep:∀i h h',tn i h→(∀b∈fp,∀o,h.get? b=some o→h'.get? b=some o)→tn i h'
 item:∀(X:Cx),X.prog=P→X.w=w→X.K=K→X.calm=true→∀(i:Nat) (pins:List (Addr×Obj)) (s:Shared) (σ:St) (H:Hp) (E:Value→Shared→Prop),Inv X pins σ H s→(∀b∈fp,FpOk X pins H b)→tn i s.heap→J.go i H→
  wpAny (model P w) X.A (pyNext (.ref it)) (fun r s1=>∃u,r=some u∧
   wpAny (model P w) X.A (letOwnedTupleGo tg (.ref it) u) (fun _ s2=>∃x H',Inv X pins σ H' s2∧RelV x u∧J.yld i H x H'∧tn (i+1) s2.heap∧∀b∈fp,H' b=none) E s1) E s
 done:∀(X:Cx),X.prog=P→X.w=w→X.K=K→X.calm=true→∀(i:Nat) (pins:List (Addr×Obj)) (s:Shared) (σ:St) (H:Hp) (E:Value→Shared→Prop),Inv X pins σ H s→(∀b∈fp,FpOk X pins H b)→tn i s.heap→J.stop i H→
  wpAny (model P w) X.A (pyNext (.ref it)) (fun r s1=>r=none∧Inv X pins σ H s1) E s
 self:∀(A:Around) (i:Nat) (s:Shared) (Q:Value→Shared→Prop) (E:Value→Shared→Prop),tn i s.heap→Q (.ref it) s→wpAny (model P w) A (pyIter (.ref it)) Q E s
abbrev TI:=St→Hp→(It→Hp→Prop)→Prop
def PIE(X:Cx)(pins:List (Addr×Obj))(σ:St)(tg:Expr)(R:It→Hp→Prop)(itv:Value)(s2:Shared):Prop:=
 ∃(it:Addr) (fp:List Addr) (tn:Nat→Heap→Prop) (J:It) (H':Hp),itv= .ref it∧Inv X pins σ H' s2∧Turn X.prog X.w X.K tg J fp it tn∧tn 0 s2.heap∧(∀b∈fp,FpOk X pins H' b)∧R J H'
def PI(X:Cx)(tg iter:Expr)(wi:TI):Prop:=
 ∀(pins:List (Addr×Obj)) (s:Shared) (σ:St) (H:Hp) (R:It→Hp→Prop),Inv X pins σ H s→wi σ H R→
  wpAny (model X.prog X.w) X.A (eval iter X.env) (fun v s1=>wpAny (model X.prog X.w) X.A (pyIter v) (PIE X pins σ tg R) X.xe s1) X.xe s
theorem Z52{M:Model}{A:Around}{E:Value→Shared→Prop}{s:Shared}{tg:Expr}{it:Addr}{u:Value}{o:Obj}{n:String}{vs:Array Value}{Q:Unit→Shared→Prop}(ho:s.heap.get? it=some o)(hc:o.cls= .type n)(hd:o.data= .fields vs)
  (hn:["enumerate","zip","dict_itemiterator","dict_reverseitemiterator","odict_iterator","itertools.zip_longest","itertools.pairwise"].contains n=false) (hQ:Q () s):wpAny M A (letOwnedTupleGo tg (.ref it) u) Q E s:=by
 unfold letOwnedTupleGo
 cases tg<;>first
  | exact Ag hQ
  |(cases u<;>first
    | exact Ag hQ
    |(refine Aa (wpAny_load ho ?_)
      rw[hc,hd]
      show wpAny M A (if (["enumerate","zip","dict_itemiterator","dict_reverseitemiterator","odict_iterator","itertools.zip_longest","itertools.pairwise"].contains n&&vs[0]?==some (rawInt _))=true then _ else _) Q E s
      rw[if_neg (by intro h;rw[hn,Bool.false_and] at h;cases h)]
      exact Ag hQ))
noncomputable def Itl(K:Ab)(a:Addr):It:=
 ⟨fun i H=>∃xs x,SqL K H a xs∧xs[i]?=some x,fun i H x H'=>H'=H∧∀xs,SqL K H a xs→xs[i]?=some x,fun i H=>∃xs,SqL K H a xs∧xs.length≤i⟩
noncomputable def Itt(K:Ab)(a:Addr):It:=
 ⟨fun i H=>∃xs x,SqT K H a xs∧xs[i]?=some x,fun i H x H'=>H'=H∧∀xs,SqT K H a xs→xs[i]?=some x,fun i H=>∃xs,SqT K H a xs∧xs.length≤i⟩
noncomputable def Itr(lo:Int)(n:Nat):It:=⟨fun i _=>i<n,fun i H x H'=>H'=H∧x= .int (lo+i),fun i _=>n≤i⟩
theorem Zf4{P:Program}{w:World}{K:Ab}{tg:Expr}(a it:Addr):Turn P w K tg (Itl K a) [it] it (fun i h=>h.IsListIter it a i) where
 mem:=by simp
 obj:=fun i h st b hb=>by
  have e:b=it:=by simpa using hb
  subst e
  obtain⟨o,e,c,d⟩:=st
  exact⟨o,e,fun v z=>by rw[d] at z;cases z⟩
 keep:=fun i h h' st k=>st.at fun o e=>k it (by simp) o e
 item:=by
  intro X hP hw hK hc i pins s σ H E I hf st hg
  subst hP hw hK
  obtain⟨xs,x,hq,hx⟩:=hg
  obtain⟨its,rv,p,hz⟩:=I.list hq
  obtain⟨u,hu,ru⟩:=rv.get hx
  obtain⟨f0,f1,f2,f3,f4,f5⟩:=hf it (by simp)
  refine wpAny_pyNext_list_item st p.isList (x:=u) (by simpa using hu) fun h' st' sb=>?_
  have I1:Inv X pins σ H {s with heap:=h'}:=I.turned (t':=s.toks) (fun b o hb e=>(sb.2 b hb).trans e) f0 f1 f3 f4 f5
  obtain⟨o,e,c,d⟩:=id st'
  exact⟨u,rfl,Z52 (s:={s with heap:=h'}) e c d (by decide) ⟨x,H,I1,ru,⟨rfl,fun ys hy=>by rw[I.list_inj hy hq];exact hx⟩,st',fun b hb=>(hf b hb).1⟩⟩
 done:=by
  intro X hP hw hK hc i pins s σ H E I hf st hg
  subst hP hw hK
  obtain⟨xs,hq,hx⟩:=hg
  obtain⟨its,rv,p,hz⟩:=I.list hq
  obtain⟨f0,f1,f2,f3,f4,f5⟩:=hf it (by simp)
  have hl:=rv.length
  exact wpAny_pyNext_list_end (I.ok.hd hc) st p.isList (by simp;omega) fun h' eb=>⟨rfl,I.turned (t':=s.toks) (fun b o hb e=>eb b o hb e) f0 f1 f3 f4 f5⟩
 self:=fun _ _ _ _ _ st h=>wpAny_pyIter_listiter st h
theorem Z00{P:Program}{w:World}{K:Ab}{tg:Expr}(a it:Addr):Turn P w K tg (Itt K a) [it] it (fun i h=>h.IsTupleIter it a i) where
 mem:=by simp
 obj:=fun i h st b hb=>by
  have e:b=it:=by simpa using hb
  subst e
  obtain⟨o,e,c,d⟩:=st
  exact⟨o,e,fun v z=>by rw[d] at z;cases z⟩
 keep:=fun i h h' st k=>st.at fun o e=>k it (by simp) o e
 item:=by
  intro X hP hw hK hc i pins s σ H E I hf st hg
  subst hP hw hK
  obtain⟨xs,x,hq,hx⟩:=hg
  obtain⟨its,rv,p,hz⟩:=I.tuple hq
  obtain⟨u,hu,ru⟩:=rv.get hx
  obtain⟨f0,f1,f2,f3,f4,f5⟩:=hf it (by simp)
  refine wpAny_pyNext_tuple_item st (show s.heap.IsTuple a its.toArray from p) (x:=u) (by simpa using hu) fun h' st' sb=>?_
  have I1:Inv X pins σ H {s with heap:=h'}:=I.turned (t':=s.toks) (fun b o hb e=>(sb.2 b hb).trans e) f0 f1 f3 f4 f5
  obtain⟨o,e,c,d⟩:=id st'
  exact⟨u,rfl,Z52 (s:={s with heap:=h'}) e c d (by decide) ⟨x,H,I1,ru,⟨rfl,fun ys hy=>by rw[I.tuple_inj hy hq];exact hx⟩,st',fun b hb=>(hf b hb).1⟩⟩
 done:=by
  intro X hP hw hK hc i pins s σ H E I hf st hg
  subst hP hw hK
  obtain⟨xs,hq,hx⟩:=hg
  obtain⟨its,rv,p,hz⟩:=I.tuple hq
  obtain⟨f0,f1,f2,f3,f4,f5⟩:=hf it (by simp)
  have hl:=rv.length
  exact wpAny_pyNext_tuple_end (I.ok.hd hc) st (show s.heap.IsTuple a its.toArray from p) (by simp;omega) fun h' eb=>⟨rfl,I.turned (t':=s.toks) (fun b o hb e=>eb b o hb e) f0 f1 f3 f4 f5⟩
 self:=fun _ _ _ _ _ st h=>wpAny_pyIter_tupleiter st h
theorem Z32{P:Program}{w:World}{K:Ab}{tg:Expr}(it:Addr)(lo:Int)(n:Nat):Turn P w K tg (Itr lo n) [it] it (fun i h=>IsRangeIter h it (lo+(i:Nat) * 1) ((n:Int) - (i:Nat)) 1) where
 mem:=by simp
 obj:=fun i h st b hb=>by
  have e:b=it:=by simpa using hb
  subst e
  exact⟨_,st,fun v z=>by
   have z':Data.fields _=Data.cell v:=z
   cases z'⟩
 keep:=fun i h h' st k=>k it (by simp) _ st
 item:=by
  intro X hP hw hK hc i pins s σ H E I hf st hg
  subst hP hw hK
  obtain⟨f0,f1,f2,f3,f4,f5⟩:=hf it (by simp)
  have W:=Walks.range (prog:=X.prog) (w:=X.w) (I.ok.hd hc) it lo 1 n
  refine W.item i s _ _ hg st fun v h' tk hv st' kk=>?_
  obtain⟨t,rfl⟩:=hv
  have I1:Inv X pins σ H {s with heap:=h',toks:=tk}:=I.turned (fun b o hb e=>kk b o (by simpa using hb) e) f0 f1 f3 f4 f5
  refine⟨_,rfl,Z52 (s:={s with heap:=h',toks:=tk}) (n:="range_iterator") st' rfl rfl (by decide) ⟨.int (lo+i),H,I1,⟨t,?_⟩,⟨rfl,rfl⟩,st',fun b hb=>(hf b hb).1⟩⟩
  rw[Int.mul_one]
 done:=by
  intro X hP hw hK hc i pins s σ H E I hf st hg
  subst hP hw hK
  obtain⟨f0,f1,f2,f3,f4,f5⟩:=hf it (by simp)
  exact wpAny_pyNext_range_end (I.ok.hd hc) st (by have:n≤i:=hg;omega) fun h' eb=>⟨rfl,I.turned (t':=s.toks) (fun b o hb e=>eb b o hb e) f0 f1 f3 f4 f5⟩
 self:=fun _ _ _ _ _ st h=>wpAny_pyIter_rangeiter st h
section
variable{X:Cx}{tg:Expr}
theorem Ew{pins:List (Addr×Obj)}{σ:St}{H:Hp}{s:Shared}{R:It→Hp→Prop}{E:Value→Shared→Prop}{lo hi:Int}{t u v:Tok}{tk:Nat}(I:Inv X pins σ H s)(h1:-(2 ^ 62)≤lo)(h2:lo<2 ^ 62)(h3:-(2 ^ 62)≤hi)(h4:hi<2 ^ 62)
  (q:R (Itr lo (hi - lo).toNat) H):wpAny (model X.prog X.w) X.A (pyIter (.ref s.heap.objs.size)) (PIE X pins σ tg R) E {s with heap:=s.heap.push {cls:= .type "range",data:= .fields #[.int lo t,.int hi u,.int 1 v]},toks:=tk}:=by
 refine wpAny_pyIter_range (IsRange.new ..) (small_one h1 h2 h3 h4) ?_
 have I1:Inv X pins σ H {s with heap:=s.heap.push {cls:= .type "range",data:= .fields #[.int lo t,.int hi u,.int 1 v]},toks:=tk}:=I.kept fun b o e=>Ae _ e
 refine⟨(s.heap.push {cls:= .type "range",data:= .fields #[.int lo t,.int hi u,.int 1 v]}).objs.size,[(s.heap.push {cls:= .type "range",data:= .fields #[.int lo t,.int hi u,.int 1 v]}).objs.size],_,_,H,rfl,
  I1.kept (t':=tk) fun b o e=>Ae _ e,Z32 _ lo (hi - lo).toNat,?_,fun b hb=>?_,q⟩
 ·have e1:lo+((0:Nat):Int) * 1=lo:=by simp
  have e2:(((hi - lo).toNat:Nat):Int) - ((0:Nat):Int)=Builtin.Range.rangeSize lo hi 1:=by rw[rangeSize_one];split<;>omega
  show IsRangeIter _ _ (lo+((0:Nat):Int) * 1) ((((hi - lo).toNat:Nat):Int) - ((0:Nat):Int)) 1
  rw[e1,e2]
  exact Aq _ rfl
 ·have e:b=(s.heap.push {cls:= .type "range",data:= .fields #[.int lo t,.int hi u,.int 1 v]}).objs.size:=by simpa using hb
  subst e
  exact I1.fpOk (Nat.le_refl _) (I1.hok.fresh (Nat.le_refl _))
def Ye8(ta:TA):TI:=fun σ H R=>ta σ H fun vs H1=>∃j:Int,vs=[.int j]∧ -(2 ^ 62)≤j∧j<2 ^ 62∧R (Itr 0 j.toNat) H1
def Ye3(ta:TA):TI:=fun σ H R=>ta σ H fun vs H1=>∃i j:Int,vs=[.int i,.int j]∧(-(2 ^ 62)≤i∧i<2 ^ 62∧ -(2 ^ 62)≤j∧j<2 ^ 62)∧R (Itr i (j - i).toNat) H1
theorem Zf7{a:Expr}{ta:TA}{p pos:Pos}(hg:Gl X "range")(hm:X.mg "range"=none)(ha:PA X [a] ta)(hs:starEach [a] X.env=[(false,eval a X.env)]:=by rfl):PI X tg (.Call (.Name "range" p) [a] [] pos) (Ye8 ta):=by
 intro pins s σ H R I h
 refine Call_ (Rj I hg hm boot_range (Hr (thn (ha pos pins s σ H _ I h) fun us s1 zz13=>?_) hs rfl))
 obtain⟨vs,H1,I1,r1,q1⟩:=zz13
 obtain⟨j,e,q1,q2,q⟩:=q1
 subst e
 cases r1 with
 | cons r rr=>
  cases rr
  obtain⟨t,rfl⟩:=r
  exact call_range_1 (Ew I1 (by omega) (by omega) q1 q2 (by simpa using q))
theorem Zc2{a b:Expr}{ta:TA}{p pos:Pos}(hg:Gl X "range")(hm:X.mg "range"=none)(ha:PA X [a,b] ta)(hs:starEach [a,b] X.env=[(false,eval a X.env),(false,eval b X.env)]:=by rfl)(hs2:starEach [b] X.env=[(false,eval b X.env)]:=by rfl):
  PI X tg (.Call (.Name "range" p) [a,b] [] pos) (Ye3 ta):=by
 intro pins s σ H R I h
 refine Call_ (Rj I hg hm boot_range (Hr (thn (ha pos pins s σ H _ I h) fun us s1 zz14=>?_) (by rw[hs,hs2]) (by rw[hs2];rfl)))
 obtain⟨vs,H1,I1,r1,q1⟩:=zz14
 obtain⟨i,j,e,⟨q1,q2,q3,q4⟩,q⟩:=q1
 subst e
 cases r1 with
 | cons r rr=>
  cases rr with
  | cons r' rr=>
   cases rr
   obtain⟨t,rfl⟩:=r
   obtain⟨t',rfl⟩:=r'
   exact call_range_2 (Ew I1 q1 q2 q3 q4 q)
def tFor(wi:TI)(g:TG)(tb:TS):TS:=fun D σ H=>wi σ H fun J H1=>∃W:Nat→Nat→St→Hp→Prop,(∃m,W 0 m σ H1)∧∀i m σ H,W i m σ H→
 (J.stop i H∧D.nx σ H)∨(J.go i H∧∃N:St→Hp→Prop,(∀σ' H',N σ' H'→∃m',m'<m∧W (i+1) m' σ' H')∧∀x H',J.yld i H x H'→g x σ H' fun σ2 H2=>tb {D with nx:=N,ct:=N,bk:=D.nx} σ2 H2)
noncomputable def C0(fp:List Addr)(h:Heap):List (Addr×Obj):=fp.filterMap fun b=>(h.get? b).map fun o=>(b,o)
theorem Xf{fp:List Addr}{h:Heap}{b:Addr}{o:Obj}(hb:b∈fp)(e:h.get? b=some o):(b,o)∈C0 fp h:=List.mem_filterMap.mpr ⟨b,hb,by rw[e];rfl⟩
theorem Z63{fp:List Addr}{h:Heap}{p:Addr×Obj}(hp:p∈C0 fp h):p.1∈fp∧h.get? p.1=some p.2:=by
 obtain⟨b,hb,e⟩:=List.mem_filterMap.mp hp
 cases q:h.get? b with
 | none=>rw[q] at e;cases e
 | some o=>
  rw[q] at e
  have e':(b,o)=p:=Dw e
  subst e'
  exact⟨hb,q⟩
theorem Inv.pinned{pins:List (Addr×Obj)}{σ:St}{H:Hp}{s:Shared}{fp:List Addr}(I:Inv X pins σ H s)(hf:∀b∈fp,FpOk X pins H b)(ho:∀b∈fp,∃o,s.heap.get? b=some o∧∀v,o.data≠ .cell v):Inv X (pins++C0 fp s.heap) σ H s:=
 I.pins_of fun p hp=>(Ho.mp hp).elim (fun z=>I.pin p (Ay _ z)) fun z=>by
  obtain⟨hb,e⟩:=Z63 z
  obtain⟨f0,f1,f2,_⟩:=hf p.1 hb
  obtain⟨o,e',d⟩:=ho p.1 hb
  rw[e] at e';cases e'
  exact⟨e,f0,f1,f2,d⟩
theorem Inv.unpinned{pins pl:List (Addr×Obj)}{σ:St}{H:Hp}{s:Shared}(I:Inv X (pins++pl) σ H s):Inv X pins σ H s:=I.pins_of fun p hp=>I.pin p (Ay _ (List.mem_append_left _ hp))
theorem Zr3{iter:Expr}{body:List Stmt}{wi:TI}{g:TG}{tb:TS}{pos:Pos}(hp:PassesOwn (model X.prog X.w) X.A X.env X.xe)(hc:X.calm=true)(hi:PI X tg iter wi)(hg:PG X tg g)(hb:PSs X body tb)
  (hs:∀x,foldedSetIterable iter X.env x=pure x:=by intro _;rfl):PS X (.For tg iter body [] pos) (tFor wi g tb):=by
 intro pins s σ H D I h
 refine wpAny_For (thn (hi pins s σ H _ I h) fun v s1 h1=>thn h1 fun itv s2 h2=>?_) hs
 obtain⟨it,fp,tn,J,H2,e,I2,T,st2,f2,W,⟨m0,w0⟩,turn⟩:=h2
 subst e
 have stat:∀{H':Hp},(∀b∈fp,H' b=none)→∀b∈fp,FpOk X pins H' b:=fun hn b hb=>⟨hn b hb,(f2 b hb).2⟩
 refine codeAny_forLoop_any (fun n s'=>∃i σ' H',Inv X pins σ' H' s'∧tn i s'.heap∧(∀b∈fp,H' b=none)∧W i n σ' H') ?_ m0 ⟨0,σ,H2,I2,st2,fun b hb=>(f2 b hb).1,w0⟩
 rintro n s3 ⟨i,σ3,H3,I3,st3,fr3,w3⟩
 rcases turn i n σ3 H3 w3 with⟨stop,qn⟩ | ⟨go,N,hN,step⟩
 ·refine Kc hp (thn (T.done X rfl rfl rfl hc i pins s3 σ3 H3 X.xe I3 (stat fr3) st3 stop) fun r s4 zz15=>?_)
  obtain⟨hr,I4⟩:=zz15
  subst hr
  exact La ⟨σ3,H3,I4,qn⟩
 ·refine Kc hp (thn (T.item X rfl rfl rfl hc i pins s3 σ3 H3 X.xe I3 (stat fr3) st3 go) fun r s4 zz16=>?_)
  obtain⟨u,hr,h4⟩:=zz16
  subst hr
  refine Kc hp (thn h4 fun _ s5 zz17=>?_)
  obtain⟨x,H5,I5,r5,y5,st5,fr5⟩:=zz17
  have I5':=I5.pinned (stat fr5) (T.obj _ _ st5)
  refine Kc hp (thn (hg _ s5 σ3 H5 x u _ I5' r5 (step x H5 y5)) fun _ s6 zz18=>?_)
  obtain⟨σ6,H6,I6,q6⟩:=zz18
  refine Kc hp (thn (hb _ s6 σ6 H6 _ I6 q6) fun f s7 q7=>?_)
  have again:∀{σ7:St} {H7:Hp},Inv X (pins++C0 fp s5.heap) σ7 H7 s7→N σ7 H7→∃m,m<n∧∃i σ' H',Inv X pins σ' H' s7∧tn i s7.heap∧(∀b∈fp,H' b=none)∧W i m σ' H':=fun{σ7 H7} I7 n7=>by
   obtain⟨m',hm,w7⟩:=hN σ7 H7 n7
   refine⟨m',hm,i+1,σ7,H7,I7.unpinned,T.keep _ _ _ st5 fun b hb o e=>(I7.pin (b,o) (Ay _ (Ay _ (Xf hb e)))).1,fun b hb=>?_,w7⟩
   obtain⟨o,e,d⟩:=T.obj _ _ st5 b hb
   exact(I7.pin (b,o) (Ay _ (Ay _ (Xf hb e)))).2.1
  cases f with
  | next=>obtain⟨σ7,H7,I7,n7⟩:=q7;exact again I7 n7
  | cont=>obtain⟨σ7,H7,I7,n7⟩:=q7;exact again I7 n7
  | brk=>obtain⟨σ7,H7,I7,q7⟩:=q7;exact⟨σ7,H7,I7.unpinned,q7⟩
  | ret v=>obtain⟨x7,σ7,H7,I7,r7,q7⟩:=q7;exact⟨x7,σ7,H7,I7.unpinned,r7,q7⟩
end
theorem Ci{c:TT}{tb:TS}{D:Ends}{σ:St}{H:Hp}(Pv:St→Hp→Prop)(μ:St→Hp→Nat)(h0:Pv σ H)
  (hs:∀σ H,Pv σ H→c σ H fun b H1=>if b=true then tb {D with nx:=fun σ' H'=>Pv σ' H'∧μ σ' H'<μ σ H,ct:=fun σ' H'=>Pv σ' H'∧μ σ' H'<μ σ H,bk:=D.nx} σ H1 else D.nx σ H1)
  (mono:∀σ H Q Q',(∀b H1,Q b H1→Q' b H1)→c σ H Q→c σ H Q'):Zp9 c tb D σ H:=by
 refine⟨fun m σ H=>m=μ σ H∧Pv σ H,⟨_,rfl,h0⟩,?_⟩
 rintro m σ H ⟨rfl,p⟩
 refine mono σ H _ _ (fun b H1 q=>?_) (hs σ H p)
 cases b with
 | true=>exact⟨_,fun σ' H' zz19=>by obtain⟨p',l⟩:=zz19;exact⟨_,l,rfl,p'⟩,q⟩
 | false=>exact q
abbrev R2:=V→V→Hp→VK→Prop
def OpR(X:Cx)(f:Value→Value→Sem Value)(r:R2):Prop:=
 ∀(pins:List (Addr×Obj)) (s:Shared) (σ:St) (H:Hp) (x y:V) (v u:Value) (Q:VK),Inv X pins σ H s→RelV x v→RelV y u→r x y H Q→
  wpAny (model X.prog X.w) X.A (f v u) (EP X pins σ Q) X.xe s
def UnR(X:Cx)(f:Value→Sem Value)(r:V→Hp→VK→Prop):Prop:=
 ∀(pins:List (Addr×Obj)) (s:Shared) (σ:St) (H:Hp) (x:V) (v:Value) (Q:VK),Inv X pins σ H s→RelV x v→r x H Q→
  wpAny (model X.prog X.w) X.A (f v) (EP X pins σ Q) X.xe s
def Tw(X:Cx)(f:Value)(r:List V→Hp→VK→Prop):Prop:=
 ∀(pins:List (Addr×Obj)) (s:Shared) (σ:St) (H:Hp) (xs:List V) (us:List Value) (Q:VK),Inv X pins σ H s→Vals xs us→r xs H Q→
  wpAny (model X.prog X.w) X.A (call f us) (EP X pins σ Q) X.xe s
def TruR(X:Cx)(r:V→Hp→(Bool→Hp→Prop)→Prop):Prop:=
 ∀(pins:List (Addr×Obj)) (s:Shared) (σ:St) (H:Hp) (x:V) (v:Value) (Q:Bool→Hp→Prop),Inv X pins σ H s→RelV x v→r x H Q→
  wpAny (model X.prog X.w) X.A (truthy v) (TP X pins σ Q) X.xe s
def tOp(r:R2)(ta tb:TE):TE:=fun σ H Q=>ta σ H fun x H1=>tb σ H1 fun y H2=>r x y H2 Q
def tUn(r:V→Hp→VK→Prop)(ta:TE):TE:=fun σ H Q=>ta σ H fun x H1=>r x H1 Q
def rI(C:Int→Int→Prop)(g:Int→Int→V):R2:=fun x y H Q=>∃i j,x= .int i∧y= .int j∧C i j∧Q (g i j) H
def rI0(g:Int→Int→V):R2:=fun x y H Q=>∃i j,x= .int i∧y= .int j∧Q (g i j) H
def rU(g:Int→V):V→Hp→VK→Prop:=fun x H Q=>∃i,x= .int i∧Q (g i) H
section
variable{X:Cx}{a b c:Expr}{ta tb tc:TE}{pos:Pos}
theorem binT(ha:PE X a ta)(hb:PE X b tb){pins:List (Addr×Obj)}{s:Shared}{σ:St}{H:Hp}{R:V→V→Hp→Prop}(I:Inv X pins σ H s)
  (h:ta σ H fun x H1=>tb σ H1 fun y H2=>R x y H2) {Q:Value→Shared→Prop} {f:Value→Value→Sem Value}
  (hf:∀v u s2 x y H2,Inv X pins σ H2 s2→RelV x v→RelV y u→R x y H2→wpAny (model X.prog X.w) X.A (f v u) Q X.xe s2):
  wpAny (model X.prog X.w) X.A (eval a X.env) (fun v s₁=>wpAny (model X.prog X.w) X.A (eval b X.env) (fun u s₂=>wpAny (model X.prog X.w) X.A (f v u) Q X.xe s₂) X.xe s₁) X.xe s:=by
 refine thn (ha pins s σ H _ I h) fun v s1 zz20=>?_
 obtain⟨x,H1,I1,r1,q1⟩:=zz20
 refine thn (hb pins s1 σ H1 _ I1 q1) fun u s2 zz21=>?_
 obtain⟨y,H2,I2,r2,q2⟩:=zz21
 exact hf v u s2 x y H2 I2 r1 r2 q2
theorem Yf0{op:Operator}{r:R2}(ho:OpR X (binaryOp op) r)(ha:PE X a ta)(hb:PE X b tb):PE X (.BinOp a op b pos) (tOp r ta tb):=by
 intro pins s σ H Q I h
 exact wpAny_BinOp (binT ha hb I h fun v u s2 x y H2 I2 rx ry q=>ho pins s2 σ H2 x y v u Q I2 rx ry q)
theorem Yd2{op:UnaryOp}{r:V→Hp→VK→Prop}(ho:UnR X (unaryOp op) r)(ha:PE X a ta):PE X (.UnaryOp op a pos) (tUn r ta):=by
 intro pins s σ H Q I h
 exact UnaryOp_ (thn (ha pins s σ H _ I h) fun v s1 zz22=>by obtain⟨x,H1,I1,r1,q1⟩:=zz22;exact ho pins s1 σ H1 x v Q I1 r1 q1)
theorem opI{f:Value→Value→Sem Value}{C:Int→Int→Prop}{g:Int→Int→Int}
  (rule:∀(i j:Int) (t u:Tok) (s:Shared) (Q:Value→Shared→Prop) (E:Value→Shared→Prop),C i j→Q (.int (g i j) s.toks) {s with toks:=s.toks+1}→wpAny (model X.prog X.w) X.A (f (.int i t) (.int j u)) Q E s):
  OpR X f (rI C fun i j=> .int (g i j)):=by
 intro pins s σ H x y v u Q I rx ry h
 obtain⟨i,j,rfl,rfl,hc,q⟩:=h
 obtain⟨t,rfl⟩:=rx
 obtain⟨t',rfl⟩:=ry
 exact rule i j t t' s _ _ hc ⟨.int (g i j),H,I.tok _,⟨_,rfl⟩,q⟩
theorem opI0{f:Value→Value→Sem Value}{g:Int→Int→Int}
  (rule:∀(i j:Int) (t u:Tok) (s:Shared) (Q:Value→Shared→Prop) (E:Value→Shared→Prop),Q (.int (g i j) s.toks) {s with toks:=s.toks+1}→wpAny (model X.prog X.w) X.A (f (.int i t) (.int j u)) Q E s):
  OpR X f (rI0 fun i j=> .int (g i j)):=by
 intro pins s σ H x y v u Q I rx ry h
 obtain⟨i,j,rfl,rfl,q⟩:=h
 obtain⟨t,rfl⟩:=rx
 obtain⟨t',rfl⟩:=ry
 exact rule i j t t' s _ _ ⟨.int (g i j),H,I.tok _,⟨_,rfl⟩,q⟩
theorem opB0{f:Value→Value→Sem Value}{g:Int→Int→Bool}
  (rule:∀(i j:Int) (t u:Tok) (s:Shared) (Q:Value→Shared→Prop) (E:Value→Shared→Prop),Q (.bool (g i j)) s→wpAny (model X.prog X.w) X.A (f (.int i t) (.int j u)) Q E s):
  OpR X f (rI0 fun i j=> .bl (g i j)):=by
 intro pins s σ H x y v u Q I rx ry h
 obtain⟨i,j,rfl,rfl,q⟩:=h
 obtain⟨t,rfl⟩:=rx
 obtain⟨t',rfl⟩:=ry
 exact rule i j t t' s _ _ ⟨.bl (g i j),H,I,rfl,q⟩
def CPow(i j:Int):Prop:=0≤j∧j≤1000000∧i.natAbs<2 ^ 64
def CMul(i j:Int):Prop:=(-(2 ^ 64)<i∧i<2 ^ 64)∨(-(2 ^ 64)<j∧j<2 ^ 64)
theorem CMul.ok{i j:Int}(h:CMul i j):IntMulOk i j:=by
 rcases h with⟨h1,h2⟩ | ⟨h1,h2⟩
 ·exact .of_left (intBits_le_64 h1 h2)
 ·exact .of_right (intBits_le_64 h1 h2)
theorem Yc1:OpR X (binaryOp .Add) (rI0 fun i j=> .int (i+j)):=opI0 fun _ _ _ _ _ _ _ q=>add_int q
theorem Y63:OpR X (binaryOp .Sub) (rI0 fun i j=> .int (i - j)):=opI0 fun _ _ _ _ _ _ _ q=>sub_int q
theorem Y09:OpR X (binaryOp .Mod) (rI (fun _ j=>j≠0) fun i j=> .int (i.fmod j)):=opI fun _ _ _ _ _ _ _ hc q=>mod_int' hc q
theorem Y42:OpR X (binaryOp .Pow) (rI CPow fun i j=> .int (i ^ j.toNat)):=opI fun _ _ _ _ _ _ _ hc q=>pow_int_small hc.1 hc.2.1 hc.2.2 q
theorem Y77:OpR X (binaryOp .BitAnd) (rI0 fun i j=> .int (Builtin.bitAnd i j)):=opI0 fun _ _ _ _ _ _ _ q=>and_int q
theorem Y86:OpR X (binaryOp .BitXor) (rI0 fun i j=> .int (Builtin.bitXor i j)):=opI0 fun _ _ _ _ _ _ _ q=>xor_int q
theorem unI{f:Value→Sem Value}{g:Int→Int}
  (rule:∀(i:Int) (t:Tok) (s:Shared) (Q:Value→Shared→Prop) (E:Value→Shared→Prop),Q (.int (g i) s.toks) {s with toks:=s.toks+1}→wpAny (model X.prog X.w) X.A (f (.int i t)) Q E s):
  UnR X f (rU fun i=> .int (g i)):=by
 intro pins s σ H x v Q I rx h
 obtain⟨i,rfl,q⟩:=h
 obtain⟨t,rfl⟩:=rx
 exact rule i t s _ _ ⟨.int (g i),H,I.tok _,⟨_,rfl⟩,q⟩
theorem Y90:UnR X (unaryOp .USub) (rU fun i=> .int (-i)):=unI fun _ _ _ _ _ q=>neg_int q
end
noncomputable def scal:V→V→Bool
 | .non,.non=>true | .non,.int _=>true | .int _,.non=>true | .non,.bl _=>true | .bl _,.non=>true | .non,.str _=>true | .str _,.non=>true
 | .int _,.int _=>true | .bl _,.bl _=>true | .str _,.str _=>true | .byt _,.byt _=>true
 | .int _,.str _=>true | .str _,.int _=>true | .bl _,.str _=>true | .str _,.bl _=>true
 | _,_=>false
def rEq:R2:=fun x y H Q=>scal x y=true∧Q (.bl (decide (x=y))) H
def rNe:R2:=fun x y H Q=>scal x y=true∧Q (.bl (!decide (x=y))) H
theorem Z94{i j:Int}:decide (V.int i=V.int j)=(i==j):=by
 rw[Bool.eq_iff_iff]
 simp
theorem Zq0{i j:Bool}:decide (V.bl i=V.bl j)=(i==j):=by
 rw[Bool.eq_iff_iff]
 simp
theorem Ze3{i j:Str}:decide (V.str i=V.str j)=(i==j):=by
 rw[Bool.eq_iff_iff]
 simp
theorem Ze0{i j:Array UInt8}:decide (V.byt i=V.byt j)=(i.toList==j.toList):=by
 rw[Bool.eq_iff_iff]
 cases i
 cases j
 simp
section
variable{X:Cx}{a b c:Expr}{ta tb tc:TE}{pos:Pos}
theorem Yb{pins:List (Addr×Obj)}{σ:St}{H:Hp}{s:Shared}{Q:VK}{k k':Bool}(I:Inv X pins σ H s)(q:Q (.bl k) H)(e:k=k'):EP X pins σ Q (.bool k') s:=by
 subst e
 exact⟨.bl k,H,I,rfl,q⟩
theorem Yg5:OpR X (compareOp .Eq) rEq:=by
 intro pins s σ H x y v u Q I rx ry h
 obtain⟨hs,q⟩:=h
 cases x with
 | non=>
  cases rx
  cases y with
  | non=>cases ry;exact PySem.EqNone.eq_none_none (Yb I q (by simp))
  | bl j=>cases ry;exact PySem.EqNone.eq_none_bool (Yb I q (by simp))
  | int j=>obtain⟨t',rfl⟩:=ry;exact PySem.EqNone.eq_none_int (Yb I q (by simp))
  | str j=>obtain⟨t',rfl⟩:=ry;exact PySem.EqNone.eq_none_str (Yb I q (by simp))
  | _=>exact absurd (show false=true from hs) Bool.false_ne_true
 | bl i=>
  cases rx
  cases y with
  | non=>cases ry;exact PySem.EqNone.eq_bool_none (Yb I q (by simp))
  | bl j=>cases ry;exact eq_bool (Yb I q Zq0)
  | str j=>obtain⟨t',rfl⟩:=ry;exact PySem.EqMixed.eq_bool_str (Yb I q (by simp))
  | _=>exact absurd (show false=true from hs) Bool.false_ne_true
 | int i=>
  obtain⟨t,rfl⟩:=rx
  cases y with
  | non=>cases ry;exact PySem.EqNone.eq_int_none (Yb I q (by simp))
  | int j=>obtain⟨t',rfl⟩:=ry;exact eq_int (Yb I q Z94)
  | str j=>obtain⟨t',rfl⟩:=ry;exact PySem.EqMixed.eq_int_str (Yb I q (by simp))
  | _=>exact absurd (show false=true from hs) Bool.false_ne_true
 | str i=>
  obtain⟨t,rfl⟩:=rx
  cases y with
  | non=>cases ry;exact PySem.EqNone.eq_str_none (Yb I q (by simp))
  | bl j=>cases ry;exact PySem.EqMixed.eq_str_bool (Yb I q (by simp))
  | int j=>obtain⟨t',rfl⟩:=ry;exact PySem.EqMixed.eq_str_int (Yb I q (by simp))
  | str j=>obtain⟨t',rfl⟩:=ry;exact eq_str (Yb I q Ze3)
  | _=>exact absurd (show false=true from hs) Bool.false_ne_true
 | byt i=>
  obtain⟨t,rfl⟩:=rx
  cases y with
  | byt j=>obtain⟨t',rfl⟩:=ry;exact PySem.W.eq_bytes (Yb I q Ze0)
  | _=>exact absurd (show false=true from hs) Bool.false_ne_true
 | _=>cases y<;>exact absurd (show false=true from hs) Bool.false_ne_true
theorem Yg2:OpR X (compareOp .NotEq) rNe:=by
 intro pins s σ H x y v u Q I rx ry h
 obtain⟨hs,q⟩:=h
 cases x with
 | non=>
  cases rx
  cases y with
  | non=>cases ry;exact PySem.EqNone.ne_none_none (Yb I q (by simp))
  | bl j=>cases ry;exact PySem.EqNone.ne_none_bool (Yb I q (by simp))
  | int j=>obtain⟨t',rfl⟩:=ry;exact PySem.EqNone.ne_none_int (Yb I q (by simp))
  | str j=>obtain⟨t',rfl⟩:=ry;exact PySem.EqNone.ne_none_str (Yb I q (by simp))
  | _=>exact absurd (show false=true from hs) Bool.false_ne_true
 | bl i=>
  cases rx
  cases y with
  | non=>cases ry;exact PySem.EqNone.ne_bool_none (Yb I q (by simp))
  | bl j=>cases ry;exact ne_bool (Yb I q (congrArg not Zq0))
  | str j=>obtain⟨t',rfl⟩:=ry;exact PySem.EqMixed.ne_bool_str (Yb I q (by simp))
  | _=>exact absurd (show false=true from hs) Bool.false_ne_true
 | int i=>
  obtain⟨t,rfl⟩:=rx
  cases y with
  | non=>cases ry;exact PySem.EqNone.ne_int_none (Yb I q (by simp))
  | int j=>obtain⟨t',rfl⟩:=ry;exact ne_int (Yb I q (congrArg not Z94))
  | str j=>obtain⟨t',rfl⟩:=ry;exact PySem.EqMixed.ne_int_str (Yb I q (by simp))
  | _=>exact absurd (show false=true from hs) Bool.false_ne_true
 | str i=>
  obtain⟨t,rfl⟩:=rx
  cases y with
  | non=>cases ry;exact PySem.EqNone.ne_str_none (Yb I q (by simp))
  | bl j=>cases ry;exact PySem.EqMixed.ne_str_bool (Yb I q (by simp))
  | int j=>obtain⟨t',rfl⟩:=ry;exact PySem.EqMixed.ne_str_int (Yb I q (by simp))
  | str j=>obtain⟨t',rfl⟩:=ry;exact ne_str (Yb I q (congrArg not Ze3))
  | _=>exact absurd (show false=true from hs) Bool.false_ne_true
 | byt i=>
  obtain⟨t,rfl⟩:=rx
  cases y with
  | byt j=>obtain⟨t',rfl⟩:=ry;exact PySem.W.ne_bytes (Yb I q (congrArg not Ze0))
  | _=>exact absurd (show false=true from hs) Bool.false_ne_true
 | _=>cases y<;>exact absurd (show false=true from hs) Bool.false_ne_true
theorem Yg9:OpR X (compareOp .Lt) (rI0 fun i j=> .bl (decide (i<j))):=opB0 fun _ _ _ _ _ _ _ q=>lt_int q
theorem Yh3:OpR X (compareOp .Gt) (rI0 fun i j=> .bl (decide (j<i))):=opB0 fun _ _ _ _ _ _ _ q=>gt_int q
theorem Ze6:OpR X (compareOp .In) (fun x y H Q=>∃i j,x= .str i∧y= .str j∧Q (.bl (!(Ky j i 0 j.length 1).isEmpty)) H):=by
 intro pins s σ H x y v u Q I rx ry h
 obtain⟨i,j,rfl,rfl,q⟩:=h
 obtain⟨t,rfl⟩:=rx
 obtain⟨t',rfl⟩:=ry
 exact in_str (Yb I q rfl)
theorem Gj:OpR X (compareOp .NotIn) (fun x y H Q=>∃i j,x= .str i∧y= .str j∧Q (.bl (!(!(Ky j i 0 j.length 1).isEmpty))) H):=by
 intro pins s σ H x y v u Q I rx ry h
 obtain⟨i,j,rfl,rfl,q⟩:=h
 obtain⟨t,rfl⟩:=rx
 obtain⟨t',rfl⟩:=ry
 exact notIn_str (Yb I q rfl)
theorem Y28{op:CmpOp}{r:R2}(ho:OpR X (compareOp op) r)(ha:PE X a ta)(hb:PE X b tb)(hm:behindInMarks op b=false):PE X (.Compare a [op] [b] pos) (tOp r ta tb):=by
 intro pins s σ H Q I h
 exact wpAny_Compare1 (binT ha hb I h fun v u s2 x y H2 I2 rx ry q=>ho pins s2 σ H2 x y v u Q I2 rx ry q) hm
def Y55(t:TE):TT:=fun σ H Q=>t σ H fun x H'=>∃k,x= .bl k∧Q k H'
theorem Zw4{op:CmpOp}{r:R2}(ho:OpR X (compareOp op) r)(ha:PE X a ta)(hb:PE X b tb)(hm:behindInMarks op b=false):PT X (.Compare a [op] [b] pos) (Y55 (tOp r ta tb)):=by
 intro pins s σ H Q I h
 refine wpAny_isTrue_Compare1 (thn (ha pins s σ H _ I h) fun v s1 ⟨x,H1,I1,r1,q1⟩=>thn (hb pins s1 σ H1 _ I1 q1) fun u s2 ⟨y,H2,I2,r2,q2⟩=>
  thn (ho pins s2 σ H2 x y v u _ I2 r1 r2 q2) fun c s3 ⟨z,H3,I3,r3,k,e,q3⟩=>?_) hm
 subst e
 cases r3
 exact wpAny_truthy_bool ⟨H3,I3,q3⟩
def TruV(K:Ab)(x:V)(H:Hp)(k:Bool):Prop:=
 match x with
 | .non=>k=false
 | .bl b=>k=b
 | .int i=>k=(i !=0)
 | .str y=>y.length≤sizeLine∧k=((y.length:Int) !=0)
 | .byt y=>y.size≤sizeLine∧k=((y.size:Int) !=0)
 | .ref p=>(∃xs,SqL K H p xs∧k= !xs.isEmpty)∨(∃xs,SqT K H p xs∧k= !xs.isEmpty)∨∃kvs,H p=some (.dK kvs)∧k= !kvs.isEmpty
 | _=>False
theorem Z27{κ:Type}{kvs:List (κ×V)}{vs:List (κ×Value)}(r:KV kvs vs):(!vs.isEmpty)= !kvs.isEmpty:=by
 cases r<;>rfl
theorem Oa{xs:List V}{its:List Value}(r:Vals xs its):(!its.toArray.isEmpty)= !xs.isEmpty:=by
 cases r<;>simp
theorem Pf:(sizeLine:Nat)<2 ^ 63:=by rw[Kn];decide
theorem Co:TruR X (fun x H Q=>∃k,TruV X.K x H k∧Q k H):=by
 intro pins s σ H x v Q I rx h
 obtain⟨k,e,q⟩:=h
 have hl:=Pf
 have hs:sizeLine=16777216:=Kn
 cases x with
 | non=>
  cases rx
  have e':k=false:=e
  subst e'
  exact truthy_none ⟨H,I,q⟩
 | bl b=>
  cases rx
  have e':k=b:=e
  subst e'
  exact wpAny_truthy_bool ⟨H,I,q⟩
 | int i=>
  obtain⟨t,rfl⟩:=rx
  have e':k=(i !=0):=e
  subst e'
  exact PySem.P.truthy_int ⟨H,I,q⟩
 | str y=>
  obtain⟨t,rfl⟩:=rx
  obtain⟨hy,e'⟩:y.length≤sizeLine∧k=((y.length:Int) !=0):=e
  subst e'
  exact PySem.P.truthy_str (by omega) ⟨H,I.tok _,q⟩
 | byt y=>
  obtain⟨t,rfl⟩:=rx
  obtain⟨hy,e'⟩:y.size≤sizeLine∧k=((y.size:Int) !=0):=e
  subst e'
  exact PySem.W.truthy_bytes (by omega) ⟨H,I.tok _,q⟩
 | ref p=>
  cases rx
  have e':(∃xs,SqL X.K H p xs∧k= !xs.isEmpty)∨(∃xs,SqT X.K H p xs∧k= !xs.isEmpty)∨∃kvs,H p=some (.dK kvs)∧k= !kvs.isEmpty:=e
  rcases e' with⟨xs,hx,e'⟩ | ⟨xs,hx,e'⟩ | ⟨kvs,hx,e'⟩
  ·subst e'
   obtain⟨its,r,pl,hz⟩:=I.list hx
   have hlen:=r.length
   exact wpAny_truthy_list pl.isList (by simp only[Ak];omega) ⟨H,I.tok _,by rw[Oa r];exact q⟩
  ·subst e'
   obtain⟨its,r,pl,hz⟩:=I.tuple hx
   have hlen:=r.length
   exact truthy_tuple pl (by simp only[Ak];omega) ⟨H,I.tok _,by rw[Oa r];exact q⟩
  ·subst e'
   obtain⟨hz,hS,vs,r,m⟩:kvs.length≤sizeLine∧(p==sysModules)=false∧∃vs,KV kvs vs∧s.heap.DictOf (Ye X.prog X.w) p vs:=I.hok p _ hx
   have hlen:kvs.length=vs.length:=Paired.length r
   exact wpAny_truthy_dict hS m (by omega) ⟨H,I.tok _,by rw[Z27 r];exact q⟩
 | _=>exact(show False from e).elim
theorem Zl7(ha:PE X a ta)(he:∀whole,isTrue a X.env whole=(do let v ←whole;standAt a.pos;holding [v] (truthy v))):
  PT X a (fun σ H Q=>ta σ H fun x H'=>∃k,TruV X.K x H' k∧Q k H'):=by
 intro pins s σ H Q I h
 exact isTrue_plain (thn (ha pins s σ H _ I h) fun v s1 zz24=>by obtain⟨x,H1,I1,r1,q1⟩:=zz24;exact Co pins s1 σ H1 x v Q I1 r1 q1) (he _)
theorem Z40:OpR X (binaryOp .Add) (fun x y H Q=>∃i j,x= .str i∧y= .str j∧i.length+j.length≤sizeLine∧Q (.str (i++j)) H):=by
 intro pins s σ H x y v u Q I rx ry h
 obtain⟨i,j,rfl,rfl,hz,q⟩:=h
 obtain⟨t,rfl⟩:=rx
 obtain⟨t',rfl⟩:=ry
 exact add_str (fun t' tk=>⟨.str (i++j),H,I.tok _,⟨_,rfl⟩,q⟩) hz
theorem Jc{x:V}{us:List Value}(r:Vals [x] us):∃u,us=[u]∧RelV x u:=by
 cases r with
 | cons r1 r2=>cases r2;exact⟨_,rfl,r1⟩
theorem Ni{x y:V}{us:List Value}(r:Vals [x,y] us):∃u w',us=[u,w']∧RelV x u∧RelV y w':=by
 cases r with
 | cons r1 r2=>
  cases r2 with
  | cons r3 r4=>cases r4;exact⟨_,_,rfl,r1,r3⟩
theorem Za9(hc:X.calm=true):Tw X (.builtin "min") (fun xs H Q=>∃i j,xs=[.int i,.int j]∧Q (.int (if j<i then j else i)) H):=by
 intro pins s σ H xs us Q I r h
 obtain⟨i,j,rfl,q⟩:=h
 obtain⟨u,w',rfl,⟨t,rfl⟩,⟨t',rfl⟩⟩:=Ni r
 refine min_two_ints (I.ok.hd hc) fun h' tk k=>⟨_,H,I.kept k,?_,q⟩
 by_cases hj:j<i
 ·rw[if_pos hj,if_pos hj];exact⟨_,rfl⟩
 ·rw[if_neg hj,if_neg hj];exact⟨_,rfl⟩
end
structure ObjM(h:Heap)(x dx C:Addr)(mA:Str→Option Value):Prop where
 obj:h.get? x=some (PySem.W.instObj C dx)
 ns:h.Ns1 dx mA
 ne:dx≠x
theorem Jo{h:Heap}{dx:Addr}{mA:Str→Option Value}(n:h.Ns1 dx mA):∃od,h.get? dx=some od∧∀name,PySem.W.lookIn name od=some (mA name):=by
 obtain⟨o,es,ep,ho,hd,hk,_,hm⟩:=n
 refine⟨o,ho,fun name=>?_⟩
 have e:=hm name
 unfold nsFind findBy at e
 rw[←Array.find?_toList] at e
 unfold PySem.W.lookIn
 rw[hd]
 dsimp only
 split
 ·rename_i y q
  rw[q] at e
  exact congrArg some e
 ·rename_i q
  rw[q] at e
  have a:es.toList.any (·.refKey)=false:=by
   rw[List.any_eq_false]
   intro y hy
   obtain⟨z,t,hkey⟩:=hk y (Array.mem_toList_iff.mp hy)
   simp[DictEntry.refKey,hkey]
  have a':¬es.toList.any (·.refKey)=true:=by rw[a];exact Bool.false_ne_true
  rw[if_neg a']
  exact congrArg some e
theorem ObjM.look{h:Heap}{x dx C:Addr}{mA:Str→Option Value}(I:ObjM h x dx C mA):∃od,PySem.W.InstAt h x (PySem.W.instObj C dx) C (some od)∧∀name,PySem.W.lookIn name od=some (mA name):=
 let ⟨od,ho,hl⟩:=Jo I.ns
 ⟨od,⟨I.obj,rfl,rfl,ho⟩,hl⟩
theorem RelO.some_of{v:V}{o:Option Value}(r:RelO (some v) o):∃u,o=some u∧RelV v u:=by
 cases o with
 | none=>exact(show False from r).elim
 | some u=>exact⟨u,rfl,r⟩
theorem RelO.none_of{o:Option Value}(r:RelO none o):o=none:=by
 cases o with
 | none=>rfl
 | some u=>exact(show False from r).elim
section
variable{P:Program}{w:World}{H H':Hp}{h h':Heap}{a C dx:Addr}{fs fs':List (Str×V)}
theorem Zu1(hok:HOk P w H h)(e:H a=some (.ins C dx fs)):∃mA,ObjM h a dx C mA∧(∀f,RelO (fs.lookup f) (mA f))∧PySem.Within mA (fs.map (·.1))∧fs.length≤1000∧H dx=some (.own a):=by
 obtain⟨d,z,ne,ob,mA,n,r,q⟩:=(show X6 P w H h a (.ins C dx fs) from hok a _ e)
 exact⟨mA,⟨ob,n,ne⟩,r,q,z,d⟩
end
structure Cls(K:Ab)(C:Addr):Prop where
 pg:PySem.W.plainGet K C Str.empty=true
 hd:PySem.W.hasDictIn K C=true
 po:PySem.W.plainOver K C=true
 sa:Dx K (.ref C) "__setattr__"=some (some (.builtin "object.__setattr__"))
theorem Cls.get{K:Ab}{C:Addr}(c:Cls K C)(f:Str):PySem.W.plainGet K C f=true:=c.pg
structure Con(K:Ab)(C:Addr)(f:Str)(v:V)(u:Value):Prop where
 at_:Dx K (.ref C) f=some (some u)
 rel:RelV v u
 get:PySem.W.specialIn K u "__get__"=some none
 cp:PySem.W.copiedNames.contains f=false
structure Meth(K:Ab)(C:Addr)(m:Str)(f:Addr):Prop where
 at_:Dx K (.ref C) m=some (some (.ref f))
 fn:PySem.W.isFn K (.ref f)=true
 kp:Ad K (.ref f)=true
section
variable{X:Cx}{pins:List (Addr×Obj)}{σ:St}{H:Hp}{s:Shared}{A:Around}{E:Value→Shared→Prop}{Q:Value→Shared→Prop}{c:Value}{b:Bool}
inductive TyOf (K:Ab) (H:Hp):V→Value→Prop where
 | non:TyOf K H .non (.type "NoneType")
 | bl (x:Bool):TyOf K H (.bl x) (.type "bool")
 | int (i:Int):TyOf K H (.int i) (.type "int")
 | str (x:Str):TyOf K H (.str x) (.type "str")
 | flt (x:UInt64):TyOf K H (.flt x) (.type "float")
 | lst {a:Addr} {xs:List V} (e:H a=some (.lst xs)):TyOf K H (.ref a) (.type "list")
 | frz {a:Addr} {o:Obj} {xs:List V} (e:H a=some (.frz o (.lst xs))):TyOf K H (.ref a) (.type "list")
 | tup {a:Addr} {xs:List V} (e:H a=some (.tup xs)):TyOf K H (.ref a) (.type "tuple")
 | dK {a:Addr} {kvs:List (Key×V)} (e:H a=some (.dK kvs)):TyOf K H (.ref a) (.type "dict")
 | dT {a:Addr} {kvs:List (List Key×V)} (e:H a=some (.dT kvs)):TyOf K H (.ref a) (.type "dict")
 | ins {a C dx:Addr} {fs:List (Str×V)} (e:H a=some (.ins C dx fs)) (cl:Cls K C) (ha:Dx K (.ref C) "__class__"=some (some (.builtin "object.__class__")))
   (hn:PySem.W.specialIn K (.builtin "object.__class__") "__get__"=some (some (.builtin "getset_descriptor.__get__"))) (htk:PySem.W.takesIn K (.builtin "object.__class__")=some true)
   (hm:Kf K C (.type "object")=some true):TyOf K H (.ref a) (.ref C)
theorem Z51{x:V}{u t:Value}(I:Inv X pins σ H s)(rx:RelV x u)(ty:TyOf X.K H x t)(e:Hf X.K t c=some b)(h:∀tk,Q (.bool b) {s with toks:=tk}):
  wpAny (model X.prog X.w) A (call (.builtin "isinstance") [u,c]) Q E s:=by
 cases ty with
 | non=>cases (show u=Value.none from rx);exact Hi PySem.W.kitx_none I.kIn Dy e (fun z=>nomatch z) h
 | bl y=>cases (show u=Value.bool y from rx);exact Hi PySem.W.kitx_bool I.kIn Dy e (fun z=>nomatch z) h
 | int i=>obtain⟨t,q⟩:=(show ∃t,u=Value.int i t from rx);cases q;exact Hi PySem.W.kitx_int I.kIn Dy e (fun z=>nomatch z) h
 | str y=>obtain⟨t,q⟩:=(show ∃t,u=Value.str y t from rx);cases q;exact Hi PySem.W.kitx_str I.kIn Dy e (fun z=>nomatch z) h
 | flt y=>obtain⟨t,q⟩:=(show ∃t,u=Value.float y t from rx);cases q;exact Hi PySem.W.kitx_float I.kIn Dy e (fun z=>nomatch z) h
 | @lst a xs ea=>
  cases (show u=Value.ref a from rx)
  obtain⟨_,_,n,_,h1⟩:=(show X6 X.prog X.w H s.heap a (.lst xs) from I.hok a _ ea)
  exact Hi PySem.W.kitx_list I.kIn ⟨_,h1,rfl⟩ e (fun z=>nomatch z) h
 | @frz a ob xs ea=>
  cases (show u=Value.ref a from rx)
  obtain⟨_,_,_,n,_,h1⟩:=(show X6 X.prog X.w H s.heap a (.frz ob (.lst xs)) from I.hok a _ ea)
  exact Hi PySem.W.kitx_list I.kIn ⟨_,h1,rfl⟩ e (fun z=>nomatch z) h
 | @tup a xs ea=>
  cases (show u=Value.ref a from rx)
  obtain⟨_,_,_,p⟩:=(show X6 X.prog X.w H s.heap a (.tup xs) from I.hok a _ ea)
  obtain⟨o,h1,h2,_⟩:=p
  exact Hi PySem.W.kitx_tuple I.kIn ⟨o,h1,h2⟩ e (fun z=>nomatch z) h
 | @dK a kvs ea=>
  cases (show u=Value.ref a from rx)
  obtain⟨_,_,vs,_,p⟩:=(show X6 X.prog X.w H s.heap a (.dK kvs) from I.hok a _ ea)
  obtain⟨o,es,ep,h1,h2,_⟩:=p
  exact Hi PySem.W.kitx_dict I.kIn ⟨o,h1,h2.1⟩ e (fun z=>nomatch z) h
 | @dT a kvs ea=>
  cases (show u=Value.ref a from rx)
  obtain⟨_,_,xs,_,o,es,ep,h1,h2,_⟩:=(show X6 X.prog X.w H s.heap a (.dT kvs) from I.hok a _ ea)
  exact Hi PySem.W.kitx_dict I.kIn ⟨o,h1,h2.1⟩ e (fun z=>nomatch z) h
 | @ins a C dx fs ea cl ha hn htk hm=>
  cases (show u=Value.ref a from rx)
  obtain⟨mA,O,_⟩:=Zu1 I.hok ea
  obtain⟨od,J,_⟩:=O.look
  exact Hi (PySem.W.kitx_own (cl.get _) cl.hd ha hn htk hm) I.kIn J e (fun z=>nomatch z) h
end
structure Room(k:Nat)(A:Around):Prop where
 hd:A.handled=none
 dp:A.depth+3 * k+5<recursionLimit
 un:A.units+16 * k+200<cLine
theorem Room.mono{j k:Nat}{A:Around}(r:Room k A)(h:j≤k):Room j A:=⟨r.hd,by have:=r.dp;omega,by have:=r.un;omega⟩
theorem Room.deeper{k:Nat}{A:Around}(r:Room (k+1) A)(env:Env):Room k (A.deeper env):=
 ⟨r.hd,by have:=r.dp;show A.depth+1+3 * k+5<_;omega,by have:=r.un;show A.units+3+16 * k+200<_;omega⟩
theorem Z21{A:Around}{C:Addr}{us:List Value}{kw:List (Str×Value)}:(A.under (.builtin "type.__call__" ⟨.ref C::us,kw⟩)).depth=A.depth+1:=by
 first | rfl | simp[Around.under,Code.weight,Code.isCreation,Code.isGuard,Code.isCaller,Code.frames,Code.isFrame,guardIds]
theorem Z20{A:Around}{C:Addr}{us:List Value}{kw:List (Str×Value)}:(A.under (.builtin "type.__call__" ⟨.ref C::us,kw⟩)).units=A.units+1:=by
 first | rfl | simp[Around.under,Code.cUnits,Code.frames,Code.isFrame]
theorem Room.make{k:Nat}{A:Around}(r:Room (k+1) A)(C:Addr)(us:List Value)(kw:List (Str×Value)):Room k (A.under (.builtin "type.__call__" ⟨.ref C::us,kw⟩)):=
 ⟨r.hd,by have:=r.dp;rw[Z21];omega,by have:=r.un;rw[Z20];omega⟩
theorem Room.depth{k:Nat}{A:Around}(r:Room k A):A.depth<recursionLimit:=by have:=r.dp;omega
theorem Room.units{k:Nat}{A:Around}(r:Room k A):A.units+64<cLine:=by have:=r.un;omega
def tNil:TA:=fun _ H Q=>Q [] H
def Yf3(ta:TE)(tr:TA):TA:=fun σ H Q=>ta σ H fun x H1=>tr σ H1 fun xs H2=>Q (x::xs) H2
section
variable{X:Cx}{e:Expr}{es:List Expr}{te:TE}{t:TA}{pos:Pos}
theorem Qs:PA X [] tNil:=fun _ _ _ _ H Q I h=>Calls.spliced_nil ⟨[],H,I,.nil,h⟩
theorem Wq(ha:PE X e te)(hr:PA X es t)(hs:starEach (e::es) X.env=(false,eval e X.env)::starEach es X.env:=by rfl):PA X (e::es) (Yf3 te t):=by
 intro pos pins s σ H Q I h
 rw[hs]
 show wpAny _ _ (spliced ((false,eval e X.env)::backTo pos (starEach es X.env))) _ _ s
 refine Calls.spliced_cons (thn (ha pins s σ H _ I h) fun u s1 zz25=>?_)
 obtain⟨x,H1,I1,r1,q1⟩:=zz25
 exact thn (hr pos pins s1 σ H1 _ I1 q1) fun us s2 zz26=>by obtain⟨xs,H2,I2,r2,q2⟩:=zz26;exact⟨x::xs,H2,I2,.cons r1 r2,q2⟩
def tTup(t:TA):TE:=fun σ H Q=>t σ H fun xs H1=>xs.length≤sizeLine∧∀p,H1 p=none→Q (.ref p) (upd H1 p (.tup xs))
def tLst(t:TA):TE:=fun σ H Q=>t σ H fun xs H1=>xs.length≤sizeLine∧∀p,H1 p=none→Q (.ref p) (upd H1 p (.lst xs))
theorem Y80{x1}(h:PA X es t):PE X (.Tuple es x1 pos) (tTup t):=by
 intro pins s σ H Q I hq
 refine wpAny_Tuple_spliced (thn (h pos pins s σ H _ I hq) fun us s1 ⟨xs,H1,I1,r,z,q⟩=>⟨by rw[←r.length];exact z,?_⟩)
 have hf:H1 s1.heap.objs.size=none:=I1.hok.fresh (Nat.le_refl _)
 refine⟨.ref s1.heap.objs.size,upd H1 s1.heap.objs.size (.tup xs),I1.laid (t':=s1.toks) (fun b u e=>Ae _ e) (Nat.le_refl _) ?_,rfl,q _ hf⟩
 exact⟨z,us,r,⟨_,Aq _ rfl,rfl,_,rfl⟩⟩
theorem Yb0(h:PA X es t):PE X (.List es pos) (tLst t):=by
 intro pins s σ H Q I hq
 refine wpAny_List_spliced (thn (h pos pins s σ H _ I hq) fun us s1 ⟨xs,H1,I1,r,z,q⟩=>⟨by rw[←r.length];exact z,?_⟩)
 have hf:H1 s1.heap.objs.size=none:=I1.hok.fresh (Nat.le_refl _)
 refine⟨.ref s1.heap.objs.size,upd H1 s1.heap.objs.size (.lst xs),I1.laid (t':=s1.toks) (fun b u e=>Ae _ e) (Nat.le_refl _) ?_,rfl,q _ hf⟩
 exact⟨z,us,0,r,Aq _ rfl⟩
end
abbrev Sp:=List V→Hp→VK→XK→Prop
abbrev CXT:=List Env→Hp→Shared→XK→Value→Shared→Prop
structure Env0(P:Program)(w:World)(K:Ab)(mg:Str→Option Value)(base:Heap)(A:Around)(outer:List Env)(s:Shared)(H:Hp):Prop where
 frames:A.frames=some outer
 mod:Mod K mg base
 bs:∀b o,base.get? b=some o→s.heap.get? b=some o∧H b=none
 bsz:base.objs.size≤s.heap.objs.size
 funs:s.heap.FunFrames base outer
 frf:∀b∈frs outer,H b=none
 hok:HOk P w H s.heap
 bare:AllBare s.gens
def CE(outer:List Env)(P:Program)(w:World)(H:Hp)(s:Shared)(Q:VK)(u:Value)(s':Shared):Prop:=
 ∃v H',s'.os=s.os∧AllBare s'.gens∧Un (frs outer) [] H H' s.heap s'.heap∧HOk P w H' s'.heap∧RelV v u∧Q v H'
def CR(CX:CXT)(outer:List Env)(P:Program)(w:World)(H:Hp)(s:Shared)(Q:VK)(E:XK)(r:Result)(s':Shared):Prop:=
 match r with
 | .ok (.ret u)=>CE outer P w H s Q u s'
 | .ok _=>False
 | .error e=>CX outer H s E e s'
structure FnOk(P:Program)(w:World)(K:Ab)(mg:Str→Option Value)(base:Heap)(CX:CXT)(k:Nat)(f:Addr)(fd:FuncData)(ps:List Str)(sp:Sp):Prop where
 len:∀vs H Q E,sp vs H Q E→vs.length=ps.length
 run:∀(A:Around) (outer:List Env) (s:Shared) (H:Hp) (args:Args) (us:List Value) (vs:List V) (Q:VK) (E:XK),Room k A→Env0 P w K mg base A outer s H→BindsTo s fd args (ps.zip us)→Vals vs us→sp vs H Q E→
  codeAny (model P w) A (.call (.ref f) args) (CR CX outer P w H s Q E) s
theorem Env0.make{P:Program}{w:World}{K:Ab}{mg:Str→Option Value}{base:Heap}{A:Around}{outer:List Env}{s:Shared}{H:Hp}(e:Env0 P w K mg base A outer s H)(C:Addr)(us:List Value)(kw:List (Str×Value)):
  Env0 P w K mg base (A.under (.builtin "type.__call__" ⟨.ref C::us,kw⟩)) outer s H:=⟨by first | exact e.frames | (simpa[Around.under,Code.envs,Code.isFrame,pushEnvs] using e.frames),e.mod,e.bs,e.bsz,e.funs,e.frf,e.hok,e.bare⟩
section
variable{X:Cx}{pins:List (Addr×Obj)}{σ:St}{H:Hp}{s s':Shared}
theorem Inv.env0(I:Inv X pins σ H s):Env0 X.prog X.w X.K X.mg X.base X.A X.stack s H:=
 ⟨I.ok.frames,I.ok.mod,I.bs,Nat.le_trans I.ok.bsz I.sz,I.stack,I.stkFree,I.hok,I.bare⟩
theorem Inv.after{Q:VK}{u:Value}(I:Inv X pins σ H s)(h:CE X.stack X.prog X.w H s Q u s'):EP X pins σ Q u s':=by
 obtain⟨v,H',os,bare,un,hok,r,q⟩:=h
 obtain⟨hh,g,d,t,os'⟩:=s'
 obtain rfl:os'=s.os:=os
 exact⟨v,H',I.call (h':=hh) (g':=g) (d':=d) (t':=t) (ch:=[]) un hok bare (fun b z=>absurd z (by simp)),r,q⟩
end
def Y62(sp:Sp)(dvs:List V)(E:XK)(t:TA):TE:=fun σ H Q=>t σ H fun vs H1=>sp (vs++dvs) H1 Q E
def Zu(K:Ab)(fd:FuncData)(ps:List Str)(ds:List Value):Prop:=
 ∀(s:Shared) (us:List Value),K.In s.heap→(us++ds).length=ps.length→BindsTo s fd ⟨us,[]⟩ (ps.zip (us++ds))
theorem Zu.all{K:Ab}{fd:FuncData}{ps:List Str}(h:∀us:List Value,us.length=ps.length→bindArgs fd ⟨us,[]⟩=pure (ps.zip us)):Zu K fd ps []:=fun s us _ hl=>by
 rw[Dn] at hl ⊢
 exact .of_eq (h us hl)
def Fb(CX:CXT)(X:Cx)(E:XK):Prop:=∀(pins:List (Addr×Obj)) (σ:St) (H:Hp) (s:Shared) (e:Value) (s':Shared),Inv X pins σ H s→CX X.stack H s E e s'→X.xe e s'
section
variable{X:Cx}{CX:CXT}{k:Nat}{f C:Addr}{fd:FuncData}{ps:List Str}{sp:Sp}{dvs:List V}{ds:List Value}{E:XK}{x m:Str}{p pos apos:Pos}{e o:Expr}{es:List Expr}{ta:TE}{t:TA}
theorem Zq2{pins:List (Addr×Obj)}{σ:St}{H:Hp}{s:Shared}{Q:VK}{us:List Value}{vs:List V}(F:FnOk X.prog X.w X.K X.mg X.base CX k f fd ps sp)(hr:Room k X.A)(hb:Zu X.K fd ps ds)(hd:Vals dvs ds)(hx:Fb CX X E)
  (I:Inv X pins σ H s) (r:Vals vs us) (h:sp (vs++dvs) H Q E):wpAny (model X.prog X.w) X.A (call (.ref f) us) (EP X pins σ Q) X.xe s:=by
 have r2:Vals (vs++dvs) (us++ds):=r.append hd
 have hl:(us++ds).length=ps.length:=by rw[←r2.length];exact F.len _ _ _ _ h
 refine Lo (Ix (F.run X.A X.stack s H ⟨us,[]⟩ (us++ds) (vs++dvs) Q E hr I.env0 (hb s us I.kIn hl) r2 h) fun r s' hq=>?_)
 cases r with
 | error e=>exact hx pins σ H s e s' I hq
 | ok fl=>
  cases fl with
  | ret u=>exact I.after hq
  | next=>exact De hq
  | brk=>exact De hq
  | cont=>exact De hq
theorem Zu2(F:FnOk X.prog X.w X.K X.mg X.base CX k f fd ps sp)(hr:Room k X.A)(hg:Gl X x)(hm:X.mg x=some (.ref f))(hk:Ad X.K (.ref f)=true)(hb:Zu X.K fd ps ds)(hd:Vals dvs ds)(hx:Fb CX X E)
  (ha:PA X (e::es) t) (hdb:(x==("__debug__":Str))=false:=by decide) (he:starEach (e::es) X.env=(false,eval e X.env)::starEach es X.env:=by rfl) (hpl:(backTo pos (starEach es X.env)).any (·.1)=false:=by rfl):
  PE X (.Call (.Name x p) (e::es) [] pos) (Y62 sp dvs E t):=by
 intro pins s σ H Q I h
 refine Hs (Vs I hg hm ?_ hdb)
 refine PySem.W.callWith_K (h₀:=X.base) I.ok.mod.kin hk (thn (ha pos pins s σ H _ I h) fun us s1 ⟨vs,H1,I1,r,q⟩=>⟨I1.kIn,?_⟩) he hpl
 exact Zq2 F hr hb hd hx I1 r q
theorem Zg7(F:FnOk X.prog X.w X.K X.mg X.base CX k f fd ps sp)(hr:Room k X.A)(hg:Gl X x)(hm:X.mg x=some (.ref f))(hk:Ad X.K (.ref f)=true)(hb:Zu X.K fd ps ds)(hd:Vals dvs ds)(hx:Fb CX X E)
  (hdb:(x==("__debug__":Str))=false:=by decide):PE X (.Call (.Name x p) [] [] pos) (Y62 sp dvs E tNil):=by
 intro pins s σ H Q I h
 refine Hs (Vs I hg hm ?_ hdb)
 exact PySem.W.callWith_K0 I.kIn hk (Zq2 (us:=[]) F hr hb hd hx I .nil h)
structure Mk(K:Ab)(C f:Addr):Prop where
 makes:PySem.W.makesIn K C=true
 init:Dx K (.ref C) "__init__"=some (some (.ref f))
 fn:PySem.W.isFn K (.ref f)=true
 kp:Ad K (.ref C)=true
end
section
variable{X:Cx}{CX:CXT}{k:Nat}{f C:Addr}{fd:FuncData}{ps ks:List Str}{sp:Sp}{E:XK}{x m:Str}{p pos apos kpos:Pos}{e o:Expr}{es:List Expr}{kws:List Keyword}{te ta:TE}{t tk:TA}{nm:Option Str}
structure KBinds(K:Ab)(fd:FuncData)(ps ks:List Str)(g:List Value→List Value→List Value)(gV:List V→List V→List V):Prop where
 to:∀(s:Shared) (us ws:List Value),K.In s.heap→(g us ws).length=ps.length→BindsTo s fd ⟨us,ks.zip ws⟩ (ps.zip (g us ws))
 rel:∀{vs:List V} {us:List Value} {zs:List V} {ws:List Value},Vals vs us→Vals zs ws→Vals (gV vs zs) (g us ws)
variable{g:List Value→List Value→List Value}{gV:List V→List V→List V}
end
structure FnScope(N P:List Str)(sc:Scope):Prop where
 kind:sc.kind= .function
 co:sc.isCoroutine=false
 gen:sc.isGenerator=false
 nd:N.Nodup
 pre:N.take P.length=P
 par:∀x∈P,sc.names.lookup x=some .local∨sc.names.lookup x=some .cell
 nofree:∀y∈sc.names,y.2≠ .free
theorem Fk{kindOf:Str→Option NameKind}{x:Str}:∀{binds:List (Str×Value)} {m:Str→Option Value},(∀v,(x,v)∉binds)→bindL kindOf binds m x=m x
 | [],_,_=>rfl
 |(n,v)::r,m,h=>by
  unfold bindL
  rw[Fk fun w hw=>h w (Dr _ hw)]
  split
  ·have:x≠n:=by rintro rfl;exact h v He
   simp[this]
  ·rfl
theorem Jt{kindOf:Str→Option NameKind}{x:Str}:∀{binds:List (Str×Value)} {m:Str→Option Value},(∀v,(x,v)∉binds)→bindC kindOf binds m x=m x
 | [],_,_=>rfl
 |(n,v)::r,m,h=>by
  unfold bindC
  rw[Jt fun w hw=>h w (Dr _ hw)]
  split
  ·rfl
  ·have:x≠n:=by rintro rfl;exact h v He
   simp[this]
theorem Gq{kindOf:Str→Option NameKind}{x:Str}{v:Value}:∀{P:List Str} {vs:List Value} {i:Nat} {m:Str→Option Value},P.Nodup→P[i]?=some x→vs[i]?=some v→kindOf x=some .local→
  bindL kindOf (P.zip vs) m x=some v
 | [],_,_,_,_,h,_,_=>by simp at h
 | _::_,[],_,_,_,_,h,_=>by simp at h
 | p::P,w::vs,0,m,nd,h1,h2,hk=>by
  simp at h1 h2;subst h1;subst h2
  show bindL kindOf ((p,w)::P.zip vs) m p=_
  unfold bindL
  rw[Fk fun v hv=>(Ll.mp nd).1 (List.of_mem_zip hv).1,if_pos hk]
  simp
 | p::P,w::vs,i+1,m,nd,h1,h2,hk=>by
  show bindL kindOf ((p,w)::P.zip vs) m x=_
  unfold bindL
  exact Gq (i:=i) (Ll.mp nd).2 (by simpa using h1) (by simpa using h2) hk
theorem Jz{kindOf:Str→Option NameKind}{x:Str}{v:Value}:∀{P:List Str} {vs:List Value} {i:Nat} {m:Str→Option Value},P.Nodup→P[i]?=some x→vs[i]?=some v→kindOf x≠some .local→
  bindC kindOf (P.zip vs) m x=some v
 | [],_,_,_,_,h,_,_=>by simp at h
 | _::_,[],_,_,_,_,h,_=>by simp at h
 | p::P,w::vs,0,m,nd,h1,h2,hk=>by
  simp at h1 h2;subst h1;subst h2
  show bindC kindOf ((p,w)::P.zip vs) m p=_
  unfold bindC
  rw[Jt fun v hv=>(Ll.mp nd).1 (List.of_mem_zip hv).1,if_neg hk]
  simp
 | p::P,w::vs,i+1,m,nd,h1,h2,hk=>by
  show bindC kindOf ((p,w)::P.zip vs) m x=_
  unfold bindC
  exact Jz (i:=i) (Ll.mp nd).2 (by simpa using h1) (by simpa using h2) hk
noncomputable def start(N:List Str)(vs:List V):St:=vs.map some++Df (N.length - vs.length) none
def cxOf(CX:CXT)(P:Program)(w:World)(K:Ab)(mg:Str→Option Value)(base:Heap)(N:List Str)(qual:Str)(scope:Scope)(f:Addr)(cd:Value)(A:Around)(outer:List Env)(s:Shared)(H:Hp)(E:XK):Cx where
 prog:=P
 w:=w
 K:=K
 mg:=mg
 base:=base
 A:=A.deeper (envOfC qual scope s.heap.objs.size f cd)
 N:=N
 s₀:=s
 H₀:=H
 env:=envOfC qual scope s.heap.objs.size f cd
 outer:=outer
 stack:=envOfC qual scope s.heap.objs.size f cd::outer
 ex:=[]
 calm:=true
 fn:=fun _=>true
 pn:=[]
 xe:=fun e s'=>wpAny (model P w) (A.deeper (envOfC qual scope s.heap.objs.size f cd)) (leaving (envOfC qual scope s.heap.objs.size f cd) e) (fun _ s''=>CX outer H s E e s'') (fun e' s''=>CX outer H s E e' s'') s'
theorem Cc{sc:Scope}{n:Nat}{x:Str}(h:sc.names.lookup x=some .cell):∃c,(cellsFrom n sc.names []).lookup x=some c:=by
 have q:=PySem.W.cellsFrom_some sc.names n [] (.inl h)
 exact Hx.mp q
theorem Zb1{CX:CXT}{P:Program}{w:World}{K:Ab}{mg:Str→Option Value}{base:Heap}{N ps:List Str}{qual:Str}{scope:Scope}{f:Addr}{cd:Value}{A:Around}{outer:List Env}{s s1:Shared}{H:Hp}{E:XK}{us:List Value}{vs:List V}
  (S:FnScope N ps scope) (hd:A.handled=none) (e0:Env0 P w K mg base A outer s H) (hl:vs.length=ps.length) (r:Vals vs us)
  (x:InCallC s s.heap.objs.size (bindL (envOfC qual scope s.heap.objs.size f cd).kindOf (ps.zip us) fun _=>none) (cellsFrom (s.heap.objs.size+1) scope.names []) (bindC (envOfC qual scope s.heap.objs.size f cd).kindOf (ps.zip us) fun _=>none) s1):
  Inv (cxOf CX P w K mg base N qual scope f cd A outer s H E) [] (start N vs) H s1:=by
 have hpl:ps.length≤N.length:=by have:=congrArg List.length S.pre;rw[Iu] at this;omega
 obtain⟨h1,tk,rfl,hk⟩:=x.done
 have noA:∀b:Addr,b∉(cxOf CX P w K mg base N qual scope f cd A outer s H E).ex:=fun b z=>absurd (show b∈([]:List Addr) from z) (by simp)
 refine⟨⟨e0.mod,S.kind,rfl,rfl,Nat.le_refl _,fun y z c h1 h2=>?_,fun y hy=>?_,fun y c _ h=>?_,fun _=>hd,Around.frames_deeper e0.frames,.inr ⟨rfl,rfl⟩,fun b z=>absurd z (noA b),e0.bs,e0.bsz,fun b _ _=>noA b,fun b z=>absurd z (noA b),e0.funs,e0.frf⟩,
  rfl,e0.bare,Un.kept hk,⟨_,x.toInCall.ns,fun i y v h1 h2 h3=>?_⟩,fun y c h=>⟨_,x.cell y c h⟩,e0.hok.fresh (Nat.le_refl _),fun y c h=>?_,fun p hp=>absurd (show p∈([]:List (Addr×Obj)) from hp) (by simp),e0.hok.kept hk,?_⟩
 ·exact name_of_addr x.apart (Kv h1) (Kv h2)
 ·have hy:scope.names.lookup y=some .cell∨scope.names.lookup y=some .free:=hy
  rcases hy with hy | hy
  ·exact Cc hy
  ·exact absurd rfl (S.nofree _ (Kv hy))
 ·exact Nat.le_of_lt (x.above y c (Kv h))
 ·have hi:i<vs.length:=by
   unfold start at h2
   by_cases hi:i<vs.length
   ·exact hi
   ·rw[Dk (by simpa using hi)] at h2
    rw[List.getElem?_replicate] at h2
    split at h2<;>cases h2
  have ha:vs[i]?=some v:=by
   unfold start at h2
   rw[Di (by simpa using hi),Ax] at h2
   cases e:vs[i]? with
   | none=>rw[e] at h2;cases h2
   | some a=>rw[e] at h2;cases h2;rfl
  obtain⟨u,hu,rv⟩:=r.get ha
  have hp:ps[i]?=some y:=by
   rw[←S.pre,List.getElem?_take_of_lt (by omega)];exact h1
  have ndP:ps.Nodup:=by rw[←S.pre];exact S.nd.sublist (List.take_sublist _ _)
  refine⟨u,rv,?_⟩
  rcases S.par y (Hb hp) with k | k
  ·exact .inl ⟨k,Gq ndP hp hu k⟩
  ·obtain⟨c,e⟩:=Cc (n:=s.heap.objs.size+1) k
   refine .inr ⟨.inl k,c,e,?_⟩
   have q:=x.cell y c e
   rw[Jz ndP hp hu (by show scope.names.lookup y≠_;rw[k];decide)] at q
   exact q
 ·exact e0.hok.fresh (Nat.le_of_lt (x.above y c (Kv h)))
 ·unfold start
  show _=N.length
  rw[Ac,Ah,Kd]
  omega
theorem Zt9{CX:CXT}{P:Program}{w:World}{K:Ab}{mg:Str→Option Value}{base:Heap}{k:Nat}{f:Addr}{name qual:Str}{params:Arguments}{body:List Stmt}{scope:Scope}{dV kV doc pm cdv ct oc:Value}{an od:Option Addr}
  {osl:Array (Option Value)} {N ps:List Str} {sp:Sp} (lk:K.lookup f=some ⟨oc,od,.func (Au name qual params body scope dV kV doc pm an cdv ct),osl⟩) (hcd:Ar K cdv qual=true) (S:FnScope N ps scope)
  (len:∀vs H Q E,sp vs H Q E→vs.length=ps.length)
  (hbody:∀(A:Around) (outer:List Env) (s:Shared) (H:Hp) (vs:List V) (Q:VK) (E:XK),Room k (A.deeper (envOfC qual scope s.heap.objs.size f cdv))→sp vs H Q E→
   ∃t,PSs (cxOf CX P w K mg base N qual scope f cdv A outer s H E) body t∧t {nx:=fun _ H'=>Q .non H',rt:=Q} (start N vs) H):
  FnOk P w K mg base CX (k+1) f (Au name qual params body scope dV kV doc pm an cdv ct) ps sp:=by
 refine⟨len,fun A outer s H args us vs Q E hr e0 hb r hsp=>?_⟩
 have hl:=len _ _ _ _ hsp
 have KX:K.In s.heap:=e0.mod.kin.keeps fun b o e=>(e0.bs b o e).1
 have lim:s.heap.NoLimit:=e0.mod.nolimit.keeps fun b o e=>(e0.bs b o e).1
 have hkind:∀y∈ps.zip us,scope.names.lookup y.1=some .local∨(scope.names.lookup y.1=some .cell∧((cellsFrom (s.heap.objs.size+1) scope.names []).lookup y.1).isSome=true):=fun⟨n,v⟩ hy=>by
  rcases S.par n (List.of_mem_zip hy).1 with q | q
  ·exact .inl q
  ·exact .inr ⟨q,PySem.W.cellsFrom_some _ _ _ (.inl q)⟩
 refine codeAny_call_function hr.depth (KX _ _ lk) rfl S.co S.gen rfl (PySem.W.codeRec_of KX hcd) (hb _ _ _ _ ?_)
 refine wpAny_newFunctionEnv_cells S.kind hkind fun env he s1 x=>?_
 subst he
 refine⟨lim.keeps x.toInCall.keep,codeAny_func ?_⟩
 obtain⟨t,ht,hq⟩:=hbody A outer s H vs Q E (hr.deeper _) hsp
 have I:Inv (cxOf CX P w K mg base N qual scope f cdv A outer s H E) [] (start N vs) H s1:=Zb1 S hr.hd e0 hl r x
 refine Dv (ht [] s1 (start N vs) H _ I hq) (fun fl s' hs=>?_) fun e s' hs=>hs
 have fin:∀{σ':St} {H':Hp} {v:V} {u:Value},Inv (cxOf CX P w K mg base N qual scope f cdv A outer s H E) [] σ' H' s'→RelV v u→Q v H'→CE outer P w H s Q u s':=
  fun{σ' H' v u} J rv q=>⟨v,H',J.os,J.bare,J.base,J.hok,rv,q⟩
 cases fl with
 | ret u=>
  obtain⟨v,σ',H',J,rv,q⟩:=hs
  exact fin J rv q
 | next=>
  obtain⟨σ',H',J,q⟩:=hs
  exact fin (v:=V.non) (u:=Value.none) J rfl q
 | brk=>
  obtain⟨_,_,_,q⟩:=hs
  exact De q
 | cont=>
  obtain⟨_,_,_,q⟩:=hs
  exact De q
section
variable{X:Cx}{x:Str}{p pos:Pos}{e:Expr}{es:List Expr}{t:TA}{id T:String}{r:List V→Hp→VK→Prop}
def tCB(r:List V→Hp→VK→Prop)(t:TA):TE:=fun σ H Q=>t σ H fun vs H1=>r vs H1 Q
theorem Zk2(hc:Tw X (.builtin id) r)(hg:Gl X x)(hm:X.mg x=none)(hv:bootBuiltins x=some (.builtin id))(ha:PA X (e::es) t)(hn:x≠"__name__":=by decide)(hdb:(x==("__debug__":Str))=false:=by decide)
  (he:starEach (e::es) X.env=(false,eval e X.env)::starEach es X.env:=by rfl) (hpl:(backTo pos (starEach es X.env)).any (·.1)=false:=by rfl):PE X (.Call (.Name x p) (e::es) [] pos) (tCB r t):=by
 intro pins s σ H Q I h
 refine Hs (Rj I hg hm hv ?_ hn hdb)
 exact PyProof.Rows.callWith_builtin1 (thn (ha pos pins s σ H _ I h) fun us s1 zz31=>by obtain⟨vs,H1,I1,r1,q1⟩:=zz31;exact hc pins s1 σ H1 vs us Q I1 r1 q1) he hpl
theorem Pj(hc:Tw X (.type T) r)(hg:Gl X x)(hm:X.mg x=none)(hv:bootBuiltins x=some (.type T))(ha:PA X (e::es) t)(hn:x≠"__name__":=by decide)(hdb:(x==("__debug__":Str))=false:=by decide)
  (he:starEach (e::es) X.env=(false,eval e X.env)::starEach es X.env:=by rfl) (hpl:(backTo pos (starEach es X.env)).any (·.1)=false:=by rfl):PE X (.Call (.Name x p) (e::es) [] pos) (tCB r t):=by
 intro pins s σ H Q I h
 refine Hs (Rj I hg hm hv ?_ hn hdb)
 exact Hr (thn (ha pos pins s σ H _ I h) fun us s1 zz32=>by obtain⟨vs,H1,I1,r1,q1⟩:=zz32;exact hc pins s1 σ H1 vs us Q I1 r1 q1) he hpl
end
end L2
namespace HT
open PySem PyProof.Rows
section
open PySem.SeqAt
open PySem.AutoSeq1 (wpAny_loadPart')
open PySem.MeetsSeq PySem.MeetsSeq2 PySem.MeetsSeq3
end
section
variable{prog:Program}{w:World}{A:Around}{E:Value→Shared→Prop}{s:Shared}
theorem Zy9{t b:Addr}(ht:IsTup s.heap t vs.toArray)(hb:IsTup s.heap b ws.toArray)(hv:vs≠[])
  (h1:ws=[]→Q (.ref t) s) (h2:ws≠[]→Q (.ref s.heap.objs.size) {s with heap:=s.heap.push {cls:= .type "tuple",data:= .seq (vs++ws).toArray}})
  (hsz:vs.length+ws.length≤sizeLine):wpAny (model prog w) A (binaryOp .Add (.ref t) (.ref b)) Q E s:=by
 obtain⟨⟨cls,dd,data,sl⟩,ho,hc,n,hd⟩:=id ht
 obtain⟨⟨cls2,dd2,data2,sl2⟩,ho2,hc2,n2,hd2⟩:=id hb
 simp only at hc hd hc2 hd2
 subst hc hd hc2 hd2
 have e:vs.toArray++ws.toArray=(vs++ws).toArray:=by simp
 by_cases hw:ws=[]
 ·exact concat_meets ⟨_,ho,rfl⟩ ⟨_,ho2,rfl⟩ noFill_tuple_add seq_tuple_add PySem.F.slot_tuple_add PySem.F.entry_tuple_add (PySem.F.args_tuple_add_2 _ _)
   (tuple_addW1 t b vs.toArray ws.toArray n n2 dd dd2 sl sl2 (by simpa using hv) (by simp[hw])) ⟨ho,ho2,h1 hw⟩
 ·refine concat_meets ⟨_,ho,rfl⟩ ⟨_,ho2,rfl⟩ noFill_tuple_add seq_tuple_add PySem.F.slot_tuple_add PySem.F.entry_tuple_add (PySem.F.args_tuple_add_2 _ _)
   (tuple_addW2 t b vs.toArray ws.toArray n n2 dd dd2 sl sl2 (by simpa using hv) (by simpa using hw) (by rw[Ak,Ak];exact hsz)) ⟨ho,ho2,?_⟩
  rw[e]
  exact h2 hw
noncomputable def sIx(n d:Nat):Option Int→Nat
 | none=>d
 | some v=>if v<0 then(v+(n:Int)).toNat else min v.toNat n
theorem Y51(n d:Nat)(hd:d≤n)(o:Option Int):sIx n d o≤n:=by
 cases o with
 | none=>exact hd
 | some v=>
  show(if v<0 then(v+(n:Int)).toNat else min v.toNat n)≤n
  by_cases hv:v<0
  ·rw[if_pos hv];omega
  ·rw[if_neg hv];exact Nat.min_le_right _ _
theorem Zb9(v:Int)(n d:Nat):(if v<0 then max (v+(n:Int)) 0 else min v (n:Int))=((sIx n d (some v):Nat):Int):=by
 show(if v<0 then max (v+(n:Int)) 0 else min v (n:Int))=(((if v<0 then(v+(n:Int)).toNat else min v.toNat n):Nat):Int)
 by_cases hv:v<0
 ·simp only[if_pos hv];omega
 ·simp only[if_neg hv];omega
theorem Z15(lo hi:Option Int)(n:Nat):Builtin.Slice.sliceAdjust lo hi 1 (n:Int)=(((sIx n 0 lo:Nat):Int),((sIx n n hi:Nat):Int)):=by
 have h1:¬((1:Int)<0):=by omega
 unfold Builtin.Slice.sliceAdjust
 simp only[h1,if_false]
 refine Prod.ext ?_ ?_
 ·cases lo with
  | none=>rfl
  | some v=>exact Zb9 v n 0
 ·cases hi with
  | none=>rfl
  | some v=>exact Zb9 v n n
theorem Z31(i j:Nat):Kl (i:Int) (j:Int) 1=j - i:=by
 unfold Kl
 have h1:(1:Int) >0:=by omega
 simp only[h1,if_true,Int.ediv_one]
 split<;>omega
theorem O5{v:Value}(p:IsPart v o)(h:Q o s):wpAny (model prog w) A (Builtin.Slice.slicePartIndex v) Q E s:=by
 cases p with
 | none=>exact slicePart_none h
 | int i t=>exact slicePart_int h
theorem Ry{sl:Addr}{vl vu:Value}{lo hi:Option Int}{n:Nat}{Q:Int×Int×Nat→Shared→Prop}(hs:s.heap.IsSliceOf sl vl vu .none)(pl:IsPart vl lo)(pu:IsPart vu hi)
  (h:Q (((sIx n 0 lo:Nat):Int),1,sIx n n hi - sIx n 0 lo) s):wpAny (model prog w) A (Builtin.Slice.sliceApplied (.ref sl) (pure (n:Int))) Q E s:=by
 obtain⟨os,hos,hcs,hds⟩:=id hs
 unfold Builtin.Slice.sliceApplied Builtin.Slice.sliceFields
 refine Aa (Aa (Ex hos hds (x:=vl) rfl (Aa (Ex hos hds (x:=vu) rfl (Aa (Ex hos hds (x:= .none) rfl (Ag ?_)))))))
 refine Aa (slicePart_none ?_)
 show wpAny _ _ (if ((1:Int)==0)=true then _ else _) _ _ s
 rw[if_neg (by decide)]
 refine Aa (O5 pl (Aa (O5 pu (Aa (Ag ?_)))))
 show wpAny _ _ (match Builtin.Slice.sliceAdjust lo hi 1 (n:Int) with | (lo,hi)=>pure (lo,(1:Int),Kl lo hi 1)) _ _ s
 rw[Z15 lo hi n]
 show wpAny _ _ (pure (((sIx n 0 lo:Nat):Int),(1:Int),Kl ((sIx n 0 lo:Nat):Int) ((sIx n n hi:Nat):Int) 1)) _ _ s
 rw[Z31]
 exact Ag h
theorem Zm4(xs:Array Value)(i k:Nat):((Hz k).filterMap fun(m:Nat)=>xs[((i:Int)+(m:Int) * 1).toNat]?).toArray=((xs.toList.drop i).take k).toArray:=by
 have e:(fun(m:Nat)=>xs[((i:Int)+(m:Int) * 1).toNat]?)=fun m=>xs[i+m]?:=by
  funext m
  have:((i:Int)+(m:Int) * 1).toNat=i+m:=by omega
  rw[this]
 rw[e]
 have:=pick_run xs i k
 rw[List.filterMap_map] at this
 have e2:((fun x=>xs[x]?) ∘ fun x=>i+x)=fun m=>xs[i+m]?:=rfl
 rw[e2] at this
 rw[this]
theorem R0{t sl:Addr}{items:Array Value}{vl vu:Value}{lo hi:Option Int}{Q:Value→Shared→Prop}(ht:IsTup s.heap t items)(hs:s.heap.IsSliceOf sl vl vu .none)(pl:IsPart vl lo)(pu:IsPart vu hi)
  (hw:¬(sIx items.size 0 lo=0∧sIx items.size items.size hi=items.size))
  (h:Q (.ref s.heap.objs.size) {s with heap:=s.heap.push {cls:= .type "tuple",data:= .seq ((items.toList.drop (sIx items.size 0 lo)).take (sIx items.size items.size hi - sIx items.size 0 lo)).toArray}})
  (hsz:items.size≤sizeLine):wpAny (model prog w) A (getItem (.ref t) (.ref sl)) Q E s:=by
 have htake:sizeOk (.seq ((items.toList.drop (sIx items.size 0 lo)).take (sIx items.size items.size hi - sIx items.size 0 lo)).toArray):=by
  show((items.toList.drop (sIx items.size 0 lo)).take (sIx items.size items.size hi - sIx items.size 0 lo)).toArray.size≤sizeLine
  rw[Ak,Iu,List.length_drop,Ku]
  omega
 have hj:sIx items.size items.size hi≤items.size:=Y51 _ _ (Nat.le_refl _) hi
 obtain⟨os,hos,hcs,hds⟩:=id hs
 have hTs:s.TypeIs (.ref sl) "slice":=⟨os,hos,hcs⟩
 unfold getItem
 try with_reducible refine Kg ?_
 first | refine Aa (Ag ?_) | skip
 refine Aa (wpAny_sequenceKey ht.typeIs (by decide) ?_)
 refine Aa (Iq (name:=Str.ofString "__getitem__") ht.typeIs PyProof.Rows.slot_tuple_getitem
  (Li PyProof.Rows.slot_tuple_getitem ht.typeIs entry_tuple_getitem ?_ (args_tuple_getitem _ _)))
 show wpAny _ _ (Builtin.Tuple.tupleItemsOf (.ref t) >>=_) _ _ s
 refine Aa (tupleItemsOf_ ht ?_)
 refine Aa (wpAny_typeOf hTs ?_)
 rw[if_pos (by decide)]
 refine Aa (Ry hs pl pu ?_)
 have hno:¬((((sIx items.size 0 lo:Nat):Int)==0&&(1:Int)==1&&(sIx items.size items.size hi - sIx items.size 0 lo)==items.size)=true):=by
  intro q
  rw[Bool.and_eq_true,Bool.and_eq_true] at q
  have q1:((sIx items.size 0 lo:Nat):Int)=0:=Iy q.1.1
  have q2:sIx items.size items.size hi - sIx items.size 0 lo=items.size:=Iy q.2
  exact hw ⟨by omega,by omega⟩
 show wpAny _ _ (if (((sIx items.size 0 lo:Nat):Int)==0&&(1:Int)==1&&(sIx items.size items.size hi - sIx items.size 0 lo)==items.size)=true then _ else _) _ _ s
 rw[if_neg hno,Zm4]
 first
  | exact Aa (m:=Ko _) (Hw (Ag ⟨_,rfl,Ag h⟩) htake)
  | exact Aa (m:=Ko _) (Hw (Aa (Ag (Ag ⟨_,rfl,Ag h⟩))) htake)
  | exact Aa (Aa (m:=Ko _) (Hw (Ag (Ag ⟨_,rfl,Ag h⟩)) htake))
  | exact Aa (Aa (m:=Ko _) (Hw (Ag ⟨_,rfl,Ag h⟩) htake))
end
end HT
namespace L2
open PySem PySem.Spec PyProof.Rows
abbrev TO:=St→Hp→(Option Int→Hp→Prop)→Prop
def PO(X:Cx)(e:Option Expr)(t:TO):Prop:=
 ∀(pins:List (Addr×Obj)) (s:Shared) (σ:St) (H:Hp) (Q:Option Int→Hp→Prop),Inv X pins σ H s→t σ H Q→
  wpAny (model X.prog X.w) X.A (evalPart e X.env) (fun u s'=>∃o H',Inv X pins σ H' s'∧IsPart u o∧Q o H') X.xe s
def Zv6:TO:=fun _ H Q=>Q none H
def Yf4(t:TE):TO:=fun σ H Q=>t σ H fun x H1=>∃i,x= .int i∧Q (some i) H1
section
variable{X:Cx}{e:Expr}{te:TE}{lo hi:Option Expr}{tl th:TO}{pos p2:Pos}
theorem Zy1:PO X none Zv6:=by
 intro pins s σ H Q I h
 rw[evalPart_none]
 exact Ag ⟨none,H,I,.none,h⟩
theorem Y12(h:PE X e te):PO X (some e) (Yf4 te):=by
 intro pins s σ H Q I hw
 rw[evalPart_some]
 refine thn (h pins s σ H _ I hw) fun u s1 zz33=>?_
 obtain⟨x,H1,I1,r1,q1⟩:=zz33
 obtain⟨i,rfl,q⟩:=q1
 obtain⟨t,rfl⟩:=r1
 exact⟨some i,H1,I1,.int i t,q⟩
def SlR(X:Cx)(r:V→Option Int→Option Int→Hp→VK→Prop):Prop:=
 ∀(pins:List (Addr×Obj)) (s:Shared) (σ:St) (H:Hp) (x:V) (v vl vu:Value) (lo hi:Option Int) (sl:Addr) (Q:VK),Inv X pins σ H s→RelV x v→s.heap.IsSliceOf sl vl vu .none→IsPart vl lo→IsPart vu hi→r x lo hi H Q→
  ∃T id,typeLookup (.type T) "__getitem__"=pure (some (.builtin id))∧s.TypeIs v T∧wpAny (model X.prog X.w) X.A (getItem v (.ref sl)) (EP X pins σ Q) X.xe s
def tSl(r:V→Option Int→Option Int→Hp→VK→Prop)(te:TE)(tl th:TO):TE:=fun σ H Q=>te σ H fun x H1=>tl σ H1 fun l H2=>th σ H2 fun u H3=>r x l u H3 Q
theorem Zp0(hr:SlR X r)(he:PE X e te)(hl:PO X lo tl)(hu:PO X hi th):PE X (.Subscript e (.Slice lo hi none p2) pos) (tSl r te tl th):=by
 intro pins s σ H Q I h
 refine Subscript_ (thn (he pins s σ H _ I h) fun v s1 zz34=>?_)
 obtain⟨x,H1,I1,r1,q1⟩:=zz34
 refine wpAny_Slice (thn (hl pins s1 σ H1 _ I1 q1) fun vl s2 ⟨l,H2,I2,pl,q2⟩=>thn (hu pins s2 σ H2 _ I2 q2) fun vu s3 zz36=>?_)
 obtain⟨u,H3,I3,pu,q3⟩:=zz36
 rw[evalPart_none]
 refine Ag ?_
 have I4:Inv X pins σ H3 {s3 with heap:=s3.heap.push {cls:= .type "slice",data:= .fields #[vl,vu,.none]}}:=I3.kept (t':=s3.toks) fun b ob q=>Ae _ q
 obtain⟨T,id,hT,ht,hg⟩:=hr pins {s3 with heap:=s3.heap.push {cls:= .type "slice",data:= .fields #[vl,vu,.none]}} σ H3 x v vl vu l u s3.heap.objs.size Q I4 r1 (Heap.IsSliceOf.new ..) pl pu q3
 show wpAny (model X.prog X.w) X.A (subscriptTail e (.Slice lo hi none p2) v (.ref s3.heap.objs.size)) (EP X pins σ Q) X.xe {s3 with heap:=s3.heap.push {cls:= .type "slice",data:= .fields #[vl,vu,.none]}}
 exact tail_any (ops:=[.ref s3.heap.objs.size,v]) ht hT hg (by with_unfolding_all rfl)
noncomputable def cutV(xs:List V)(lo hi:Option Int):List V:=(xs.drop (HT.sIx xs.length 0 lo)).take (HT.sIx xs.length xs.length hi - HT.sIx xs.length 0 lo)
theorem Qw(xs:List V)(lo hi:Option Int):(cutV xs lo hi).length≤xs.length:=by
 unfold cutV
 rw[Iu,List.length_drop]
 omega
def rSlT(K:Ab):V→Option Int→Option Int→Hp→VK→Prop:=fun x lo hi H Q=>∃a xs,x= .ref a∧SqT K H a xs∧
 ¬(HT.sIx xs.length 0 lo=0∧HT.sIx xs.length xs.length hi=xs.length)∧∀p,H p=none→Q (.ref p) (upd H p (.tup (cutV xs lo hi)))
theorem Yb5:SlR X (rSlT X.K):=by
 intro pins s σ H x v vl vu lo hi sl Q I rx hs pl pu h
 obtain⟨a,xs,rfl,hx,hw,q⟩:=h
 cases rx
 obtain⟨its,r,ht,hz⟩:=I.tuple hx
 have hlen:its.toArray.size=xs.length:=by rw[Ak];exact r.length.symm
 refine⟨"tuple",_,PyProof.Rows.slot_tuple_getitem.lookup,ht.typeIs,?_⟩
 refine HT.R0 ht hs pl pu (by rw[hlen];exact hw) ?_ (by rw[hlen];exact hz)
 rw[hlen]
 refine⟨.ref s.heap.objs.size,_,I.laid (t':=s.toks) (o:= .tup (cutV xs lo hi)) (fun b ob q=>Ae _ q) (Nat.le_refl _) ?_,rfl,q _ (I.hok.fresh (Nat.le_refl _))⟩
 exact⟨Nat.le_trans (Qw xs lo hi) hz,_,(r.drop (HT.sIx xs.length 0 lo)).take (HT.sIx xs.length xs.length hi - HT.sIx xs.length 0 lo),IsTup.new _ _⟩
def Yf5(K:Ab):R2:=fun x y H Q=>∃a b xs ys,x= .ref a∧y= .ref b∧SqT K H a xs∧SqT K H b ys∧xs≠[]∧xs.length+ys.length≤sizeLine∧
 (ys=[]→Q (.ref a) H)∧(ys≠[]→∀p,H p=none→Q (.ref p) (upd H p (.tup (xs++ys))))
theorem Vals.nil_iff(r:Vals xs us):us=[]↔xs=[]:=by
 cases r with
 | nil=>simp
 | cons _ _=>simp
theorem Zx8:OpR X (binaryOp .Add) (Yf5 X.K):=by
 intro pins s σ H x y v u Q I rx ry h
 obtain⟨a,b,xs,ys,rfl,rfl,ha,hb,hx,hz,q1,q2⟩:=h
 cases rx
 cases ry
 obtain⟨its,r1,p1,_⟩:=I.tuple ha
 obtain⟨its2,r2,p2,_⟩:=I.tuple hb
 refine HT.Zy9 p1 p2 (fun z=>hx (r1.nil_iff.mp z)) (fun z=>⟨.ref a,H,I,rfl,q1 (r2.nil_iff.mp z)⟩) (fun z=>?_) (by rw[←r1.length,←r2.length];exact hz)
 refine⟨.ref s.heap.objs.size,_,I.laid (t':=s.toks) (o:= .tup (xs++ys)) (fun b ob q=>Ae _ q) (Nat.le_refl _) ?_,rfl,q2 (fun w=>z (r2.nil_iff.mpr w)) _ (I.hok.fresh (Nat.le_refl _))⟩
 exact⟨by rw[Ac];exact hz,_,r1.append r2,IsTup.new _ _⟩
end
noncomputable def ixN(n:Nat)(i:Int):Option Nat:=if 0≤i then(if i<n then some i.toNat else none) else if -(n:Int)≤i then some (i+n).toNat else none
noncomputable def atI{α:Type}(xs:List α)(i:Int):Option α:=(ixN xs.length i).bind fun j=>xs[j]?
theorem Z93{n:Nat}{i:Int}(h:ixN n i=some j):seqIndex? i n=some j∧j<n∧ -(n:Int)≤i∧i<n:=by
 unfold ixN at h
 by_cases h0:0≤i
 ·rw[if_pos h0] at h
  by_cases h1:i<n
  ·rw[if_pos h1] at h
   have e:i.toNat=j:=Dw h
   exact⟨by rw[seqIndex_of h0 h1,e],by omega,by omega,h1⟩
  ·rw[if_neg h1] at h;cases h
 ·rw[if_neg h0] at h
  by_cases h1:-(n:Int)≤i
  ·rw[if_pos h1] at h
   have e:(i+n).toNat=j:=Dw h
   exact⟨by rw[seqIndex_neg (by omega) h1,e],by omega,h1,by omega⟩
  ·rw[if_neg h1] at h;cases h
theorem Ee{α:Type}{xs:List α}{i:Int}{v:α}(h:atI xs i=some v):∃j,seqIndex? i xs.length=some j∧xs[j]?=some v∧j<xs.length∧ -(xs.length:Int)≤i∧i<xs.length:=by
 unfold atI at h
 cases e:ixN xs.length i with
 | none=>rw[e] at h;cases h
 | some j=>
  rw[e] at h
  obtain⟨h1,h2,h3,h4⟩:=Z93 e
  exact⟨j,h1,h,h2,h3,h4⟩
theorem Vk{α:Type}{xs:List α}{j:Nat}{v:α}(h:xs[j]?=some v):atI xs (j:Int)=some v:=by
 have hj:j<xs.length:=(Af.mp h).1
 have e:ixN xs.length (j:Int)=some j:=by
  unfold ixN
  rw[if_pos (by omega),if_pos (by omega)];simp
 unfold atI;rw[e];exact h
theorem Zo7{α:Type}(xs:List α)(v:α):atI (xs++[v]) (-1)=some v:=by
 have hl:(xs++[v]).length=xs.length+1:=by simp
 have e:ixN (xs++[v]).length (-1)=some xs.length:=by
  unfold ixN
  rw[hl,if_neg (by decide),if_pos (by omega)]
  congr 1
  omega
 unfold atI
 rw[e]
 show(xs++[v])[xs.length]?=some v
 simp
def Zf0(b:Expr):Prop:=∀o i,subscripted b false o i=operate [o,i] (getItem o i)
def IxR(X:Cx)(r:R2):Prop:=
 ∀(value slice:Expr) (pins:List (Addr×Obj)) (s:Shared) (σ:St) (H:Hp) (x y:V) (v u:Value) (Q:VK),Inv X pins σ H s→RelV x v→RelV y u→r x y H Q→
  subscripted slice false v u=operate [v,u] (getItem v u)→wpAny (model X.prog X.w) X.A (subscriptTail value slice v u) (EP X pins σ Q) X.xe s
def MtR(X:Cx)(id:String)(r:V→List V→Hp→VK→Prop):Prop:=
 ∀(pins:List (Addr×Obj)) (s:Shared) (σ:St) (H:Hp) (x:V) (xs:List V) (v:Value) (us:List Value) (Q:VK),Inv X pins σ H s→RelV x v→Vals xs us→r x xs H Q→
  wpAny (model X.prog X.w) X.A (call (.builtin id) (v::us)) (EP X pins σ Q) X.xe s
section
variable{X:Cx}{a b:Expr}{ta tb:TE}{pos:Pos}
theorem Ye7(hr:IxR X r)(ha:PE X a ta)(hb:PE X b tb)(hs:Zf0 b):PE X (.Subscript a b pos) (tOp r ta tb):=by
 intro pins s σ H Q I h
 exact Subscript_ (binT ha hb I h fun v u s2 x y H2 I2 rx ry q=>hr a b pins s2 σ H2 x y v u Q I2 rx ry q (hs _ _))
def rIxL(K:Ab):R2:=fun x y H Q=>∃p xs i v,x= .ref p∧y= .int i∧SqL K H p xs∧atI xs i=some v∧Q v H
def rIxT(K:Ab):R2:=fun x y H Q=>∃p xs i v,x= .ref p∧y= .int i∧SqT K H p xs∧atI xs i=some v∧Q v H
def rIxS:R2:=fun x y H Q=>∃z i c,x= .str z∧y= .int i∧z.length≤sizeLine∧atI z.cps.toList i=some c∧Q (.str ⟨#[c]⟩) H
theorem Zz7:IxR X (rIxL X.K):=by
 intro value slice pins s σ H x y v u Q I rx ry h hs
 obtain⟨p,xs,i,z,rfl,rfl,hq,he,q⟩:=h
 cases rx
 obtain⟨t,rfl⟩:=ry
 obtain⟨its,r,pl,hz⟩:=I.list hq
 obtain⟨j,h1,h2,h3,h4,h5⟩:=Ee he
 obtain⟨w,ew,rw'⟩:=r.get h2
 have hl:=r.length
 have hn:=Pf
 have fin:EP X pins σ Q w s:=⟨z,H,I,rw',q⟩
 by_cases h0:0≤i
 ·have hj:i.toNat=j:=by
   rw[seqIndex_of h0 h5] at h1
   exact Dw h1
  exact item_listR pl.isList h0 (by omega) (by rw[hj];simpa using ew) fin hs
 ·have hj:(i+(its.toArray.size:Int)).toNat=j:=by
   rw[seqIndex_neg (by omega) h4] at h1
   rw[Ak,←hl]
   exact Dw h1
  exact subscriptTail_builtinR (x:=w) pl.isList.typeIs slot_list_getitem.lookup
   (wpAny_getItem_list_neg (Q:=fun r s'=>r=w∧EP X pins σ Q r s') pl.isList (by omega) (by rw[Ak]<;>omega) (by omega) (by rw[hj];simpa using ew) ⟨rfl,fin⟩) hs
theorem Zs3:IxR X (rIxT X.K):=by
 intro value slice pins s σ H x y v u Q I rx ry h hs
 obtain⟨p,xs,i,z,rfl,rfl,hq,he,q⟩:=h
 cases rx
 obtain⟨t,rfl⟩:=ry
 obtain⟨its,r,pl,hz⟩:=I.tuple hq
 obtain⟨j,h1,h2,h3,h4,h5⟩:=Ee he
 obtain⟨w,ew,rw'⟩:=r.get h2
 have hl:=r.length
 have hn:=Pf
 have fin:EP X pins σ Q w s:=⟨z,H,I,rw',q⟩
 exact subscriptTail_builtinR (x:=w) pl.typeIs slot_tuple_getitem.lookup
  (getItem_tuple (j:=j) (Q:=fun r s'=>r=w∧EP X pins σ Q r s') pl (by omega) (by omega) (by rw[Ak,←hl];exact h1) (by simpa using ew) ⟨rfl,fin⟩) hs
theorem Y47:IxR X rIxS:=by
 intro value slice pins s σ H x y v u Q I rx ry h hs
 obtain⟨z,i,c,rfl,rfl,hz,he,q⟩:=h
 obtain⟨t,rfl⟩:=rx
 obtain⟨t',rfl⟩:=ry
 obtain⟨j,h1,h2,h3,h4,h5⟩:=Ee he
 have hl:z.cps.toList.length=z.length:=by simp[Str.length]
 rw[hl] at h1 h4 h5
 have hn:=Pf
 exact tail_any (typeIs_str s z t) slot_str_getitem.lookup (getItem_str (c:=c) (by
  have e1:decide (i< -(2 ^ 63:Int))=false:=decide_eq_false (by omega)
  have e2:decide (i ≥ 2 ^ 63)=false:=decide_eq_false (by omega)
  rw[e1,e2,Bool.or_false]) (by rw[h1];simpa using h2) ⟨.str ⟨#[c]⟩,H,I.tok _,⟨_,rfl⟩,q⟩) hs
theorem Z39(its:List Value)(n j:Nat)(u:Value):Iw (·.setIfInBounds j u) {cls:= .type "list",data:= .seq its.toArray n}={cls:= .type "list",data:= .seq (its.set j u).toArray n}:=by
 simp[Iw]
theorem Inv.lst{pins:List (Addr×Obj)}{σ:St}{H:Hp}{s:Shared}{p:Addr}{xs:List V}(I:Inv X pins σ H s)(h:H p=some (.lst xs)):
  ∃(its:List Value) (n:Nat),Vals xs its∧s.heap.get? p=some {cls:= .type "list",data:= .seq its.toArray n}∧xs.length≤sizeLine:=by
 obtain⟨z,its,n,r,e⟩:=I.hok p _ h
 exact⟨its,n,r,e,z⟩
theorem Inv.lstUpd{pins:List (Addr×Obj)}{σ:St}{H:Hp}{s:Shared}{p:Addr}{xs ys:List V}{its its':List Value}{n n':Nat}{f:Obj→Obj}(I:Inv X pins σ H s)(h:H p=some (.lst xs))
  (ho:s.heap.get? p=some {cls:= .type "list",data:= .seq its.toArray n}) (hf:f {cls:= .type "list",data:= .seq its.toArray n}={cls:= .type "list",data:= .seq its'.toArray n'}) (r:Vals ys its') (hz:ys.length≤sizeLine) (t:Nat):
  Inv X pins σ (upd H p (.lst ys)) {s with heap:=s.heap.update p f,toks:=t}:=by
 have e:(s.heap.update p f).get? p=some {cls:= .type "list",data:= .seq its'.toArray n'}:=by
  rw[Ds f ho (by rw[hf]<;>rfl),hf]
 refine I.write (x:=p) (e:=p) (by rw[h];trivial) (.inl rfl) (fun b u hb q=>(Dl _ _ (Ch hb)).trans q) ⟨_,e⟩ ?_
 exact⟨hz,its',n',r,e⟩
def Yc4:V→V→V→Hp→(Hp→Prop)→Prop:=fun o i v H Q=>∃p xs k j,o= .ref p∧i= .int k∧H p=some (.lst xs)∧ixN xs.length k=some j∧Q (upd H p (.lst (xs.set j v)))
theorem Zl2:PSet X Yc4:=by
 intro pins s σ H o i v ov iv u Q I ro ri rv h
 obtain⟨p,xs,k,j,rfl,rfl,hp,hj,q⟩:=h
 cases ro
 obtain⟨t,rfl⟩:=ri
 obtain⟨its,n,r,ho,hz⟩:=I.lst hp
 obtain⟨h1,h2,h3,h4⟩:=Z93 hj
 have hl:=r.length
 have hn:=Pf
 have I':Inv X pins σ (upd H p (.lst (xs.set j v))) {s with heap:=s.heap.update p (Iw (·.setIfInBounds j u))}:=
  I.lstUpd hp ho (Z39 its n j u) (r.set rv j) (by rw[List.length_set];exact hz) s.toks
 by_cases h0:0≤k
 ·have hk:k.toNat=j:=by
   rw[seqIndex_of h0 h4] at h1
   exact Dw h1
  exact PySem.W.ki_setAt ho h0 (by omega) (by rw[Ak,←hl];exact h4) (by rw[hk];exact⟨_,I',q⟩)
 ·have hk:(k+(its.toArray.size:Int)).toNat=j:=by
   rw[seqIndex_neg (by omega) h3] at h1
   rw[Ak,←hl]
   exact Dw h1
  exact PySem.W.ki_setBack ho (by omega) (by rw[Ak,←hl];exact h3) (by omega) (by rw[hk];exact⟨_,I',q⟩)
theorem G0(lo hi:Option Int)(n:Nat):(sliceBounds lo hi none n).1=((HT.sIx n 0 lo:Nat):Int)∧(sliceBounds lo hi none n).2.1=((HT.sIx n n hi:Nat):Int)∧(sliceBounds lo hi none n).2.2=1:=by
 refine⟨?_,?_,rfl⟩
 ·cases lo with
  | none=>simp[sliceBounds,HT.sIx]
  | some i=>
   simp only[sliceBounds,HT.sIx,Option.getD_none,show(1:Int) >0 by decide,if_true]
   by_cases h:i<0
   ·simp only[h,if_true]<;>omega
   ·simp only[h,if_false]<;>omega
 ·cases hi with
  | none=>simp[sliceBounds,HT.sIx]
  | some i=>
   simp only[sliceBounds,HT.sIx,Option.getD_none,show(1:Int) >0 by decide,if_true]
   by_cases h:i<0
   ·simp only[h,if_true]<;>omega
   ·simp only[h,if_false]<;>omega
theorem Nt(its:List Value)(lo hi:Option Int):slicePick its.toArray lo hi none=((its.drop (HT.sIx its.length 0 lo)).take (HT.sIx its.length its.length hi - HT.sIx its.length 0 lo)).toArray:=by
 obtain⟨h1,h2,h3⟩:=G0 lo hi its.toArray.size
 unfold slicePick
 rw[h1,h2,h3]
 simp only[sliceRange_one,pick_run,Ak]<;>rfl
def rSlL(K:Ab):V→Option Int→Option Int→Hp→VK→Prop:=fun x lo hi H Q=>∃a xs,x= .ref a∧SqL K H a xs∧∀p,H p=none→Q (.ref p) (upd H p (.lst (cutV xs lo hi)))
theorem Zx6:SlR X (rSlL X.K):=by
 intro pins s σ H x v vl vu lo hi sl Q I rx hs pl pu h
 obtain⟨a,xs,rfl,hx,q⟩:=h
 cases rx
 obtain⟨its,r,ht,hz⟩:=I.list hx
 have hlen:=r.length
 refine⟨"list",_,slot_list_getitem.lookup,ht.isList.typeIs,?_⟩
 refine wpAny_getItem_list_slice ht.isList hs pl pu .none (by simp) ?_ (by rw[Ak]<;>omega)
 rw[Nt,←hlen]
 refine⟨.ref s.heap.objs.size,_,I.laid (t':=s.toks) (o:= .lst (cutV xs lo hi)) (fun b ob q=>Ae _ q) (Nat.le_refl _) ?_,rfl,q _ (I.hok.fresh (Nat.le_refl _))⟩
 exact⟨Nat.le_trans (Qw xs lo hi) hz,_,0,(r.drop (HT.sIx xs.length 0 lo)).take (HT.sIx xs.length xs.length hi - HT.sIx xs.length 0 lo),Aq _ rfl⟩
noncomputable def Ws:V→Bool
 | .non=>true
 | .bl _=>true
 | .int _=>true
 | .str _=>true
 | _=>false
noncomputable def eqV:V→V→Bool
 | .non,.non=>true
 | .bl a,.bl b=>a==b
 | .bl a,.int b=>(if a then 1 else 0)==b
 | .int a,.bl b=>a==(if b then 1 else 0)
 | .int a,.int b=>a==b
 | .str a,.str b=>a==b
 | _,_=>false
theorem Ba{s:Shared}{y x:V}{u v:Value}(ry:RelV y u)(rx:RelV x v)(fy:Ws y=true)(fx:Ws x=true):Dt A s u v (eqV y x):=by
 cases y with
 | non=>
  cases ry
  cases x with
  | non=>cases rx;exact Dt.same _
  | bl b=>cases rx;exact Dt.none_bool b
  | int b=>obtain⟨t,rfl⟩:=rx;exact Dt.none_int b t
  | str b=>obtain⟨t,rfl⟩:=rx;exact Dt.none_str b t
  | _=>exact absurd (show false=true from fx) Bool.false_ne_true
 | bl a=>
  cases ry
  cases x with
  | non=>cases rx;exact Dt.bool_none a
  | bl b=>cases rx;exact Dt.bool_bool a b
  | int b=>obtain⟨t,rfl⟩:=rx;exact Dt.bool_int a b t
  | str b=>obtain⟨t,rfl⟩:=rx;exact Dt.bool_str a b t
  | _=>exact absurd (show false=true from fx) Bool.false_ne_true
 | int a=>
  obtain⟨t',rfl⟩:=ry
  cases x with
  | non=>cases rx;exact Dt.int_none a t'
  | bl b=>cases rx;exact Dt.int_bool a t' b
  | int b=>obtain⟨t,rfl⟩:=rx;exact Dt.int_int a t' b t
  | str b=>obtain⟨t,rfl⟩:=rx;exact Dt.int_str a t' b t
  | _=>exact absurd (show false=true from fx) Bool.false_ne_true
 | str a=>
  obtain⟨t',rfl⟩:=ry
  cases x with
  | non=>cases rx;exact Dt.str_none a t'
  | bl b=>cases rx;exact Dt.str_bool a t' b
  | int b=>obtain⟨t,rfl⟩:=rx;exact Dt.str_int a t' b t
  | str b=>obtain⟨t,rfl⟩:=rx;exact Dt.str_str a t' b t
  | _=>exact absurd (show false=true from fx) Bool.false_ne_true
 | _=>exact absurd (show false=true from fy) Bool.false_ne_true
noncomputable def eqU(x:V)(u:Value):Bool:=match u with
 | .none=>eqV .non x
 | .bool b=>eqV (.bl b) x
 | .int i _=>eqV (.int i) x
 | .str z _=>eqV (.str z) x
 | _=>false
theorem Zr5{x y:V}(r:RelV y u)(f:Ws y=true):eqU x u=eqV y x:=by
 cases y with
 | non=>cases r;rfl
 | bl b=>cases r;rfl
 | int i=>obtain⟨t,rfl⟩:=r;rfl
 | str z=>obtain⟨t,rfl⟩:=r;rfl
 | _=>exact absurd (show false=true from f) Bool.false_ne_true
theorem Pa{x:V}:∀{xs:List V} {us:List Value},Vals xs us→xs.all Ws=true→us.any (eqU x)=xs.any fun y=>eqV y x
 | _,_,.nil,_=>rfl
 | y::xs,u::us,.cons r t,f=>by
  rw[Hu,Bool.and_eq_true] at f
  rw[Ip,Ip,Zr5 r f.1,Pa t f.2]
theorem Sn{s:Shared}{x:V}{v:Value}(rx:RelV x v)(fx:Ws x=true):∀{xs:List V} {us:List Value},Vals xs us→xs.all Ws=true→∀u∈us,Dt A s u v (eqU x u)
 | _,_,.nil,_=>fun u hu=>by cases hu
 | y::xs,u::us,.cons r t,f=>fun u' hu=>by
  rw[Hu,Bool.and_eq_true] at f
  rcases Aw.mp hu with rfl | hu
  ·rw[Zr5 r f.1];exact Ba r rx f.1 fx
  ·exact Sn rx fx t f.2 u' hu
noncomputable def inV(x:V)(xs:List V):Bool:=xs.any fun y=>eqV y x
def rIn(K:Ab)(neg:Bool):R2:=fun x y H Q=>∃p xs,y= .ref p∧(SqL K H p xs∨SqT K H p xs)∧Ws x=true∧xs.all Ws=true∧Q (.bl (if neg then !inV x xs else inV x xs)) H
theorem Z61:OpR X (compareOp .In) (rIn X.K false):=by
 intro pins s σ H x y v u Q I rx ry h
 obtain⟨p,xs,rfl,hq,fx,fs,q⟩:=h
 cases ry
 rcases hq with hq | hq
 ·obtain⟨its,r,pl,hz⟩:=I.list hq
  refine SeqAt.in_listAt (eqU x) pl.isList (fun w hw=>Sn rx fx r fs w (by simpa using hw)) ⟨.bl _,H,I,rfl,?_⟩
  rw[show its.toArray.any (eqU x)=its.any (eqU x) by simp,Pa r fs]
  exact q
 ·obtain⟨its,r,pl,hz⟩:=I.tuple hq
  refine SeqAt.in_tupleAt (eqU x) pl (fun w hw=>Sn rx fx r fs w (by simpa using hw)) ⟨.bl _,H,I,rfl,?_⟩
  rw[show its.toArray.any (eqU x)=its.any (eqU x) by simp,Pa r fs]
  exact q
theorem Jf:OpR X (compareOp .NotIn) (rIn X.K true):=by
 intro pins s σ H x y v u Q I rx ry h
 obtain⟨p,xs,rfl,hq,fx,fs,q⟩:=h
 cases ry
 rcases hq with hq | hq
 ·obtain⟨its,r,pl,hz⟩:=I.list hq
  refine SeqAt.notIn_listAt (eqU x) pl.isList (fun w hw=>Sn rx fx r fs w (by simpa using hw)) ⟨.bl _,H,I,rfl,?_⟩
  rw[show its.toArray.any (eqU x)=its.any (eqU x) by simp,Pa r fs]
  exact q
 ·obtain⟨its,r,pl,hz⟩:=I.tuple hq
  refine SeqAt.notIn_tupleAt (eqU x) pl (fun w hw=>Sn rx fx r fs w (by simpa using hw)) ⟨.bl _,H,I,rfl,?_⟩
  rw[show its.toArray.any (eqU x)=its.any (eqU x) by simp,Pa r fs]
  exact q
theorem Rg:Tw X (.builtin "len") (fun xs H Q=>∃p ys,xs=[.ref p]∧(SqL X.K H p ys∨SqT X.K H p ys)∧Q (.int ys.length) H):=by
 intro pins s σ H xs us Q I r h
 obtain⟨p,ys,rfl,hq,q⟩:=h
 obtain⟨u,rfl,rx⟩:=Jc r
 cases rx
 have hn:=Pf
 rcases hq with hq | hq
 ·obtain⟨its,r',pl,hz⟩:=I.list hq
  have hlen:=r'.length
  exact Calls.call_len_list pl.isList (by simp only[Ak]<;>omega) ⟨.int ys.length,H,I.tok _,⟨s.toks+1,by rw[Ak,hlen]⟩,q⟩
 ·obtain⟨its,r',pl,hz⟩:=I.tuple hq
  have hlen:=r'.length
  exact len_tuple pl (by simp only[Ak]<;>omega) ⟨.int ys.length,H,I.tok _,⟨s.toks+1,by rw[Ak,hlen]⟩,q⟩
theorem G1:Tw X (.builtin "len") (fun xs H Q=>∃z,xs=[.str z]∧z.length≤sizeLine∧Q (.int z.length) H):=by
 intro pins s σ H xs us Q I r h
 obtain⟨z,rfl,hz,q⟩:=h
 obtain⟨u,rfl,t,rfl⟩:=Jc r
 have hn:=Pf
 exact len_str (by omega) ⟨.int z.length,H,I.tok _,⟨_,rfl⟩,q⟩
def tyV(K:Ab)(T:String)(x:V)(H:Hp):Prop:=match x with
 | .str _=>T="str"
 | .int _=>T="int"
 | .ref p=>(T="list"∧∃xs,SqL K H p xs)∨(T="tuple"∧∃o,K.lookup p=some o∧o.cls= .type "tuple"∧o.dict=none)∨
   (T="dict"∧((∃kvs,H p=some (.dK kvs))∨∃kvs,H p=some (.dT kvs)))∨(T="set"∧∃S n,H p=some (.set S n))
 | _=>False
theorem Zs2{s:Shared}{x:V}{v:Value}(I:Inv X pins σ H s)(r:RelV x v)(ty:tyV X.K T x H):
  s.TypeIs v T∧∀a,v= .ref a→∃ob,s.heap.get? a=some ob∧ob.dict=none:=by
 cases x with
 | str z=>
  obtain⟨t,rfl⟩:=r
  cases (show T="str" from ty)
  exact⟨typeIs_str s z t,fun _ e=>nomatch e⟩
 | int i=>
  obtain⟨t,rfl⟩:=r
  cases (show T="int" from ty)
  exact⟨typeIs_int s i t,fun _ e=>nomatch e⟩
 | ref p=>
  cases r
  rcases ty with⟨rfl,xs,hq⟩ | ⟨rfl,o,hk,hc,hd⟩ | ⟨rfl,hk⟩ | ⟨rfl,S,n,hk⟩
  ·obtain⟨its,_,pl,_⟩:=I.list hq
   refine⟨pl.isList.typeIs,fun a e=>?_⟩
   cases e
   obtain⟨o,n,e,c,hd,_⟩:=pl
   exact⟨o,e,hd⟩
  ·refine⟨⟨o,I.kIn p o hk,hc⟩,fun a e=>?_⟩
   cases e
   exact⟨o,I.kIn _ o hk,hd⟩
  ·have z:∃o,s.heap.get? p=some o∧o.ExactDict:=by
    rcases hk with⟨kvs,hk⟩ | ⟨kvs,hk⟩
    ·obtain⟨_,_,_,_,o,_,_,e,ex,_⟩:=I.hok p _ hk
     exact⟨o,e,ex⟩
    ·obtain⟨_,_,_,_,o,_,_,e,ex,_⟩:=I.hok p _ hk
     exact⟨o,e,ex⟩
   obtain⟨o,e,ex⟩:=z
   refine⟨⟨o,e,ex.1⟩,fun a e2=>?_⟩
   cases e2
   exact⟨o,e,ex.2.1⟩
  ·obtain⟨o,_,_,_,e,ex,_⟩:=I.hok p _ hk
   refine⟨⟨o,e,ex.1⟩,fun a e2=>?_⟩
   cases e2
   exact⟨o,e,ex.2.1⟩
 | _=>exact De ty
def tBM0(K:Ab)(T:String)(r:V→List V→Hp→VK→Prop)(to:TE):TE:=fun σ H Q=>to σ H fun x H1=>tyV K T x H1∧r x [] H1 Q
def tBM(K:Ab)(T:String)(r:V→List V→Hp→VK→Prop)(to:TE)(t:TA):TE:=fun σ H Q=>to σ H fun x H1=>tyV K T x H1∧t σ H1 fun xs H2=>r x xs H2 Q
variable{o e:Expr}{es:List Expr}{to:TE}{t:TA}{name:Str}{apos cpos:Pos}{T id:String}{r:V→List V→Hp→VK→Prop}
theorem Yb8(pa:PlainAttrs T)(slot:Slot T name id)(hty:typeOf (.builtin id)=pure (.type "method_descriptor"))(hm:MtR X id r)(ho:PE X o to)
  (hbase:attributeBase o name X.env (eval o X.env)=eval o X.env:=by rfl) (hline:(apos.endLine==cpos.line)=true:=by rfl):PE X (.Call (.Attribute o name apos) [] [] cpos) (tBM0 X.K T r to):=by
 intro pins s σ H Q I h
 refine wpAny_Call_method0_late hbase hline (thn (ho pins s σ H _ I h) fun v s1 zz37=>?_)
 obtain⟨x,H1,I1,r1,ty,q1⟩:=zz37
 obtain⟨h1,h2⟩:=Zs2 I1 r1 ty
 exact⟨T,id,pa,slot,hty,h1,h2,Calls.callWith_builtin rfl (PySem.evalArgs_none (hm pins s1 σ H1 x [] v [] Q I1 r1 .nil q1))⟩
theorem Yf1(pa:PlainAttrs T)(slot:Slot T name id)(hty:typeOf (.builtin id)=pure (.type "method_descriptor"))(hm:MtR X id r)(ho:PE X o to)(ha:PA X (e::es) t)
  (hbase:attributeBase o name X.env (eval o X.env)=eval o X.env:=by rfl)
  (hfew:((backTo cpos (starEach (e::es) X.env)).all (fun x=> !x.1)&&(backToKw cpos (keywordEach [] X.env)).all (fun x=>x.1.isSome)
   &&decide ((e::es).length+([]:List Keyword).length+(if ([]:List Keyword).isEmpty then 0 else 1)<30))=true:=by rfl)
  (hline:(apos.endLine==cpos.line)=true:=by rfl) (hs:starEach (e::es) X.env=(false,eval e X.env)::starEach es X.env:=by rfl) (hplain:(backTo cpos (starEach es X.env)).any (·.1)=false:=by rfl):
  PE X (.Call (.Attribute o name apos) (e::es) [] cpos) (tBM X.K T r to t):=by
 intro pins s σ H Q I h
 refine wpAny_Call_method_late hbase hfew hline rfl (thn (ho pins s σ H _ I h) fun v s1 zz38=>?_)
 obtain⟨x,H1,I1,r1,ty,q1⟩:=zz38
 obtain⟨h1,h2⟩:=Zs2 I1 r1 ty
 refine⟨T,id,pa,slot,hty,h1,h2,?_⟩
 have hA:=ha cpos pins s1 σ H1 _ I1 q1
 rw[hs] at hA ⊢
 refine Calls.callWith_builtin (by show(false || (backTo cpos (starEach es X.env)).any (·.1))=false;rw[hplain]<;>rfl) (Calls.evalArgs_plain ?_)
 exact thn hA fun us s2 zz39=>by obtain⟨vs,H2,I2,r2,q2⟩:=zz39;exact hm pins s2 σ H2 x vs v us Q I2 r1 r2 q2
end
def MtM(X:Cx)(id:String)(r:V→List V→Hp→VK→Prop):Prop:=
 ∀(pins:List (Addr×Obj)) (s:Shared) (σ:St) (H:Hp) (x:V) (xs:List V) (v:Value) (us:List Value) (Q:VK),Inv X pins σ H s→RelV x v→Vals xs us→r x xs H Q→
  wpAny (model X.prog X.w) X.A (call (.builtin id) (v::us)) (EP X pins σ Q) X.xe s
theorem Vals.one:∀{x:V} {us:List Value},Vals [x] us→∃u,us=[u]∧RelV x u
 | _,_,.cons r .nil=>⟨_,rfl,r⟩
theorem Vals.zero:∀{us:List Value},Vals [] us→us=[]
 | _,.nil=>rfl
theorem Vals.dropLast(h:Vals xs us):Vals xs.dropLast us.dropLast:=by
 induction h with
 | nil=>exact .nil
 | cons r t ih=>
  cases t with
  | nil=>exact .nil
  | cons q t'=>exact .cons r ih
theorem Vals.reverse(h:Vals xs us):Vals xs.reverse us.reverse:=by
 induction h with
 | nil=>exact .nil
 | cons r t ih=>rw[List.reverse_cons,List.reverse_cons];exact Vals.append ih (.cons r .nil)
theorem Vals.rep(h:Vals xs us):∀k:Nat,Vals (Df k xs).flatten (Df k us).flatten
 | 0=> .nil
 | k+1=>by
  rw[Ig,Ig,Kk,Kk]
  exact Vals.append h (Vals.rep h k)
theorem Z05{α:Type}(l:List α):l.eraseIdx (l.length - 1)=l.dropLast:=by
 induction l with
 | nil=>rfl
 | cons a r ih=>
  cases r with
  | nil=>rfl
  | cons b r=>
   have e:(a::b::r).length - 1=((b::r).length - 1)+1:=by
    have h1:(a::b::r).length=r.length+2:=rfl
    have h2:(b::r).length=r.length+1:=rfl
    omega
   rw[e,List.eraseIdx_cons_succ,ih]
   all_goals rfl
theorem Gs(its:List Value):∀(k:Nat) (acc:List Value),
  List.foldl (fun x1 x2=>x1++x2) acc.toArray (Df k its.toArray)=(acc++(Df k its).flatten).toArray
 | 0,acc=>by simp
 | k+1,acc=>by
  have e:acc.toArray++its.toArray=(acc++its).toArray:=by simp
  have e2:(acc++its)++(Df k its).flatten=acc++(Df (k+1) its).flatten:=by
   rw[Ig,Kk,Dg]
  rw[←e2,←Gs its k (acc++its),←e,Ig,Lc]
section
variable{X:Cx}{pins:List (Addr×Obj)}{σ:St}{H:Hp}{s:Shared}{l b:Addr}{xs ys zs:List V}
theorem Inv.lset{its its':List Value}{n:Nat}{f:Array Value→Array Value}{t':Nat}(I:Inv X pins σ H s)(hH:H l=some (.lst xs))
  (e:s.heap.get? l=some {cls:= .type "list",data:= .seq its.toArray n}) (hf:f its.toArray=its'.toArray) (hv:Vals ys its') (hz:ys.length≤sizeLine):
  Inv X pins σ (upd H l (.lst ys)) {s with heap:=s.heap.update l (Iw f),toks:=t'}:=by
 have q:=PySem.IsL.update e f
 rw[hf] at q
 refine I.write (x:=l) (e:=l) (by rw[hH];exact trivial) (.inl rfl) (fun b' u hb hu=>(Dl s.heap (Iw f) (Ch hb)).trans hu) ⟨_,q⟩ ?_
 exact⟨hz,its',_,hv,q⟩
theorem Inv.lnew(I:Inv X pins σ H s)(hv:Vals ys its)(hz:ys.length≤sizeLine):
  Inv X pins σ (upd H s.heap.objs.size (.lst ys)) {s with heap:=s.heap.push {cls:= .type "list",data:= .seq its.toArray},toks:=t'}:=
 I.laid (fun _ _ q=>Ae _ q) (Nat.le_refl _) ⟨hz,its,0,hv,Aq _ rfl⟩
theorem Inv.fresh(I:Inv X pins σ H s):H s.heap.objs.size=none:=I.hok.fresh (Nat.le_refl _)
theorem Inv.lstM(I:Inv X pins σ H s)(hH:H l=some (.lst xs)):xs.length≤sizeLine∧∃(its:List Value) (n:Nat),Vals xs its∧xs.length=its.length∧s.heap.get? l=some {cls:= .type "list",data:= .seq its.toArray n}:=by
 obtain⟨z,its,n,r,e⟩:=I.hok l _ hH
 exact⟨z,its,n,r,r.length,e⟩
theorem Cs{n:Nat}(h:n≤sizeLine):Kq n=false:=by
 unfold Kq
 exact decide_eq_false (by omega)
end
section
variable{X:Cx}
def Y26:V→List V→Hp→VK→Prop:=fun x vs H Q=>∃l xs y,x= .ref l∧vs=[y]∧H l=some (.lst xs)∧xs.length<sizeLine∧Q .non (upd H l (.lst (xs++[y])))
theorem Qr:MtM X "list.append" Y26:=by
 intro pins s σ H x vs v us Q I rx rv h
 obtain⟨l,xs,y,rfl,rfl,hH,hz,q⟩:=h
 cases rx
 obtain⟨u,rfl,ru⟩:=rv.one
 obtain⟨z,its,n,r,hl,e⟩:=I.lstM hH
 refine call_meets F.slot_list_append ⟨_,e,rfl⟩ F.entry_list_append (F.args_list_append_2 _ _) (PySem.list_append l its.toArray n u (by rw[Ak];omega)) ⟨e,?_⟩
 refine⟨.non,_,I.lset (its':=its++[u]) hH e (by simp) (r.append (.cons ru .nil)) ?_,rfl,q⟩
 rw[Ac,Am]
 omega
def Zt3:V→List V→Hp→VK→Prop:=fun x vs H Q=>∃l b xs zs,x= .ref l∧vs=[.ref b]∧H l=some (.lst xs)∧H b=some (.lst zs)∧xs.length+zs.length≤sizeLine∧Q .non (upd H l (.lst (xs++zs)))
theorem Z69:MtM X "list.extend" Zt3:=by
 intro pins s σ H x vs v us Q I rx rv h
 obtain⟨l,b,xs,zs,rfl,rfl,hH,hB,hz,q⟩:=h
 cases rx
 obtain⟨u,rfl,ru⟩:=rv.one
 cases ru
 obtain⟨z,its,n,r,hl,e⟩:=I.lstM hH
 obtain⟨z2,its2,n2,r2,hl2,e2⟩:=I.lstM hB
 have hsz:its.toArray.size+its2.toArray.size≤sizeLine:=by rw[Ak,Ak];omega
 have hlong:¬(!its.toArray.isEmpty&&Kq (its.toArray.size+its2.toArray.size))=true:=by
  rw[Cs hsz,Bool.and_false]
  exact Bool.false_ne_true
 refine call_meets F.slot_list_extend ⟨_,e,rfl⟩ F.entry_list_extend (F.args_list_extend_2 _ _)
  (AutoSeq1.list_extend_list_list_0 l its.toArray n b its2.toArray n2 hlong (by rw[Ak];omega) (by omega)) ⟨e,e2,?_⟩
 refine⟨.non,_,I.lset (its':=its++its2) hH e (by simp) (r.append r2) ?_,rfl,q⟩
 rw[Ac]
 omega
def rPop:V→List V→Hp→VK→Prop:=fun x vs H Q=>∃l xs y,x= .ref l∧vs=[]∧H l=some (.lst xs)∧xs[xs.length - 1]?=some y∧Q y (upd H l (.lst xs.dropLast))
theorem Yd0:MtM X "list.pop" rPop:=by
 intro pins s σ H x vs v us Q I rx rv h
 obtain⟨l,xs,y,rfl,rfl,hH,hy,q⟩:=h
 cases rx
 have hus:=rv.zero
 subst hus
 obtain⟨z,its,n,r,hl,e⟩:=I.lstM hH
 obtain⟨u,hu,ru⟩:=r.get hy
 have hy':its.toArray[its.toArray.size - 1]?=some u:=by
  show its.toArray[its.length - 1]?=some u
  rw[←Array.getElem?_toList,←hl]
  exact hu
 refine call_meets F.slot_list_pop ⟨_,e,rfl⟩ F.entry_list_pop (F.args_list_pop_1 _) (MeetsSeq.list_pop_last l its.toArray n u hy' (by rw[Ak];omega)) ⟨e,?_⟩
 refine⟨y,_,I.lset (its':=its.dropLast) hH e ?_ r.dropLast ?_,ru,q⟩
 ·show its.toArray.eraseIdxIfInBounds (its.toArray.size - 1)=its.dropLast.toArray
  rw[Ak,List.eraseIdxIfInBounds_toArray,Z05]
 ·rw[List.length_dropLast]
  omega
def rCat:R2:=fun x y H Q=>∃l b xs zs,x= .ref l∧y= .ref b∧H l=some (.lst xs)∧H b=some (.lst zs)∧xs.length+zs.length≤sizeLine∧∀p,H p=none→Q (.ref p) (upd H p (.lst (xs++zs)))
theorem Y79:OpR X (binaryOp .Add) rCat:=by
 intro pins s σ H x y v u Q I rx ry h
 obtain⟨l,b,xs,zs,rfl,rfl,hH,hB,hz,q⟩:=h
 cases rx
 cases ry
 obtain⟨z,its,n,r,hl,e⟩:=I.lstM hH
 obtain⟨z2,its2,n2,r2,hl2,e2⟩:=I.lstM hB
 refine PySem.P.add_list e e2 ?_ (by rw[Ak,Ak];omega)
 have ea:its.toArray++its2.toArray=(its++its2).toArray:=by simp
 rw[ea]
 exact⟨.ref _,_,I.lnew (t':=s.toks) (r.append r2) (by rw[Ac];omega),rfl,q _ I.fresh⟩
def rRep:R2:=fun x y H Q=>∃l k xs,x= .ref l∧y= .int k∧H l=some (.lst xs)∧ -(2 ^ 63)≤k∧k<2 ^ 63∧xs.length * k.toNat≤sizeLine∧
 ∀p,H p=none→Q (.ref p) (upd H p (.lst (Df k.toNat xs).flatten))
theorem Zx5{α:Type}(xs:List α)(k:Nat):(Df k xs).flatten.length=k * xs.length:=by
 induction k with
 | zero=>simp
 | succ k ih=>rw[Ig,Kk,Ac,ih,Nat.succ_mul,Nat.add_comm]
theorem Y64:OpR X (binaryOp .Mult) rRep:=by
 intro pins s σ H x y v u Q I rx ry h
 obtain⟨l,k,xs,rfl,rfl,hH,h1,h2,hz,q⟩:=h
 cases rx
 obtain⟨t,rfl⟩:=ry
 obtain⟨z,its,n,r,hl,e⟩:=I.lstM hH
 have hlen:its.toArray.size * k.toNat≤sizeLine:=by rw[Ak,←hl];exact hz
 have hcap:¬its.toArray.size * k.toNat >(2 ^ 63 - 1) / 8:=by
  have:(sizeLine:Nat)≤(2 ^ 63 - 1) / 8:=by decide
  omega
 have hfit:¬(!Builtin.List.listFitsIndex k)=true:=by
  rw[fitsIndex_both h1 h2]
  exact Bool.false_ne_true
 have hlong:¬Kq (its.toArray.size * k.toNat)=true:=by
  rw[Cs hlen]
  exact Bool.false_ne_true
 have hnew:List.foldl (fun x1 x2=>x1++x2) #[] (Df (if its.toArray.isEmpty=true then 0 else k.toNat) its.toArray)=(Df k.toNat its).flatten.toArray:=by
  have f0:∀m:Nat,List.foldl (fun x1 x2=>x1++x2) #[] (Df m its.toArray)=(Df m its).flatten.toArray:=fun m=>by
   have:=Gs its m []
   rw[Hj] at this
   exact this
  rw[f0]
  cases its with
  | nil=>simp
  | cons a r'=>rw[if_neg (by simp)]
 refine wpAny_binaryOp_repeat_ref (T:="list") (U:="int") (by decide) ⟨_,e,rfl⟩ (fun s'=>typeIs_int s' k t) noFill_list_mul F.fills_int_mul F.slot_int_rmul repeat_list F.slot_int_index.lookup
  (call_meets F.slot_int_rmul (typeIs_int s k t) F.entry_int_rmul (F.args_int_rmul_2 _ _) (int___rmul___int_list k t l its.toArray n)
   ⟨e,rfl,⟨_,e,rfl⟩,call_meets F.slot_list_mul ⟨_,e,rfl⟩ F.entry_list_mul (F.args_list_mul_2 _ _) (AutoListH.list___mul___list_int_3 l its.toArray n k t hfit hcap hlong) ⟨e,?_⟩⟩)
 rw[hnew]
 exact⟨.ref _,_,I.lnew (t':=s.toks) (r.rep k.toNat) (by rw[Zx5,Nat.mul_comm];exact hz),rfl,q _ I.fresh⟩
end
section
variable{prog:Program}{w:World}{A:Around}{E:Value→Shared→Prop}{s:Shared}
set_option maxRecDepth 100000 in
end
section
variable{κ:Type}[DecidableEq κ]
noncomputable def valV(kvs:List (κ×V))(k:κ):Option V:=(kvs.find? fun kv=>decide (kv.1=k)).map (·.2)
noncomputable def putK(kvs:List (κ×V))(k:κ)(v:V):List (κ×V):=
 if (kvs.any fun kv=>decide (kv.1=k))=true then kvs.map (fun kv=>if kv.1=k then(kv.1,v) else kv) else kvs++[(k,v)]
theorem Ng{p:κ×V}{k:κ}(e:p.1=k):valV (p::r) k=some p.2:=by simp[valV,Hk,e]
theorem Ja{p:κ×V}{k:κ}(e:¬p.1=k):valV (p::r) k=valV r k:=by simp[valV,Hk,e]
theorem B6(k:κ):∀kvs:List (κ×V),(kvs.any fun kv=>decide (kv.1=k))=(valV kvs k).isSome
 | []=>rfl
 | p::r=>by
  rw[Ip]
  by_cases e:p.1=k
  ·simp only[Ng e,decide_eq_true e,Bool.true_or,Option.isSome_some]
  ·rw[Ja e,decide_eq_false e,Bool.false_or];exact B6 k r
theorem Wf(kvs:List (κ×V))(k:κ)(v:V):(putK kvs k v).length≤kvs.length+1:=by
 unfold putK
 split
 ·rw[Ah];omega
 ·rw[Ac,An,Hq];omega
theorem RelO.isSome_eq(r:RelO o u):o.isSome=u.isSome:=by
 cases o with
 | none=>cases u with
  | none=>rfl
  | some _=>exact(show False from r).elim
 | some _=>cases u with
  | none=>exact(show False from r).elim
  | some _=>rfl
theorem RelO.getD{d:V}(r:RelO o u)(rd:RelV d d'):RelV (o.getD d) (u.getD d'):=by
 cases o with
 | none=>cases u with
  | none=>exact rd
  | some _=>exact(show False from r).elim
 | some _=>cases u with
  | none=>exact(show False from r).elim
  | some _=>exact r
theorem KV.val(r:KV kvs vs)(k:κ):RelO (valV kvs k) (valueAt vs k):=by
 unfold KV at r
 induction r with
 | nil=>exact Dy
 | @cons p q ps qs h t ih=>
  obtain⟨h1,h2⟩:=h
  by_cases e:p.1=k
  ·have e':q.1=k:=h1.symm.trans e
   have b:valueAt (q::qs) k=some q.2:=by simp[valueAt,Hk,e']
   rw[Ng e,b];exact h2
  ·have e':¬q.1=k:=fun z=>e (h1.trans z)
   have b:valueAt (q::qs) k=valueAt qs k:=by simp[valueAt,Hk,e']
   rw[Ja e,b];exact ih
theorem KV.any(r:KV kvs vs)(k:κ):(kvs.any fun kv=>decide (kv.1=k))=vs.any fun kv=>decide (kv.1=k):=by
 unfold KV at r
 induction r with
 | nil=>rfl
 | cons h t ih=>rw[Ip,Ip,ih,h.1]
theorem KV.repl(r:KV kvs vs)(k:κ){y:V}(ry:RelV y u):
  KV (kvs.map fun kv=>if kv.1=k then(kv.1,y) else kv) (vs.map fun kv=>if kv.1=k then(kv.1,u) else kv):=by
 unfold KV at r ⊢
 induction r with
 | nil=>exact .nil
 | @cons p q ps qs h t ih=>
  rw[Dd,Dd]
  refine .cons ?_ ih
  obtain⟨h1,h2⟩:=h
  by_cases e:p.1=k
  ·rw[if_pos e,if_pos (h1.symm.trans e)];exact⟨h1,ry⟩
  ·rw[if_neg e,if_neg (fun z=>e (h1.trans z))];exact⟨h1,h2⟩
theorem KV.put(r:KV kvs vs)(k:κ){y:V}(ry:RelV y u):KV (putK kvs k y) (stored vs k u):=by
 unfold putK stored
 rw[r.any k]
 by_cases e:(vs.any fun kv=>decide (kv.1=k))=true
 ·rw[if_pos e,if_pos e];exact r.repl k ry
 ·rw[if_neg e,if_neg e];exact Paired.snoc r ⟨rfl,ry⟩
theorem KV.length(r:KV kvs vs):kvs.length=vs.length:=Paired.length r
end
theorem G9{k:Key}(r:RelV (kV k) u):(Ye P w).is k u=true:=by
 cases k with
 | inl i=>obtain⟨t,e⟩:=(show ∃t,u=Value.int i t from r);subst e;exact E2 P w i t
 | inr x=>obtain⟨t,e⟩:=(show ∃t,u=Value.str x t from r);subst e;exact Eb P w x t
theorem Jx:∀{ks:List Key} {us:List Value},Vals (ks.map kV) us→ItemsAre (Ye P w) ks us
 | [],_,r=>by rw[Ih] at r;cases r;exact .nil
 | k::ks,_,r=>by
  rw[Dd] at r
  cases r with
  | cons h t=>exact .cons (G9 h) (Jx t)
abbrev KT(H:Hp):List (List Key×V)→List (List Key×Addr×Value)→Prop:=Paired fun p q=>p.1=q.1∧H q.2.1=some (.tup (p.1.map kV))∧RelV p.2 q.2.2
theorem KT.val(r:KT H kvs xs)(k:List Key):RelO (valV kvs k) ((atKey xs k).map (·.2)):=by
 induction r with
 | nil=>exact Dy
 | @cons p q ps qs h t ih=>
  obtain⟨h1,_,h2⟩:=h
  by_cases e:p.1=k
  ·have e':q.1=k:=h1.symm.trans e
   have b:atKey (q::qs) k=some q.2:=by simp[atKey,Hk,e']
   rw[Ng e,b];exact h2
  ·have e':¬q.1=k:=fun z=>e (h1.trans z)
   have b:atKey (q::qs) k=atKey qs k:=by simp[atKey,Hk,e']
   rw[Ja e,b];exact ih
theorem KT.repl(r:KT H kvs xs)(k:List Key){y:V}(ry:RelV y u):
  KT H (kvs.map fun kv=>if kv.1=k then(kv.1,y) else kv) (xs.map (putAt k u)):=by
 induction r with
 | nil=>exact .nil
 | @cons p q ps qs h t ih=>
  rw[Dd,Dd]
  refine .cons ?_ ih
  obtain⟨h1,h2,h3⟩:=h
  unfold putAt
  by_cases e:p.1=k
  ·rw[if_pos e,if_pos (h1.symm.trans e)];exact⟨h1,h2,ry⟩
  ·rw[if_neg e,if_neg (fun z=>e (h1.trans z))];exact⟨h1,h2,h3⟩
theorem KT.put(r:KT H kvs xs)(k:List Key){y:V}(hb:H b=some (.tup (k.map kV)))(ry:RelV y u):
  KT H (putK kvs k y) (storedH xs k b u):=by
 have e:(kvs.any fun kv=>decide (kv.1=k))=(atKey xs k).isSome:=by
  rw[B6,(r.val k).isSome_eq,Option.isSome_map]
 unfold putK storedH
 rw[e]
 by_cases q:(atKey xs k).isSome=true
 ·rw[if_pos q,if_pos q];exact r.repl k ry
 ·rw[if_neg q,if_neg q];exact Paired.snoc r ⟨rfl,hb,ry⟩
theorem KT.keeps(r:KT H kvs xs)(ht:∀b ys,H b=some (.tup ys)→H' b=some (.tup ys)):KT H' kvs xs:=
 Paired.mapP r fun _ _ z=>⟨z.1,ht _ _ z.2.1,z.2.2⟩
section
variable{P:Program}{w:World}{H:Hp}{h:Heap}{a:Addr}
theorem Y60(ok:HOk P w H h)(e:Rd H a u):X6 P w H h a u:=e.ok ok
theorem Gv(ok:HOk P w H h)(e:Rd H a (.dK kvs)):kvs.length≤sizeLine∧(a==sysModules)=false∧∃vs,KV kvs vs∧h.DictOf (Ye P w) a vs:=
 show X6 P w H h a (.dK kvs) from Y60 ok e
theorem Z11(ok:HOk P w H h)(e:H a=some (.dK kvs)):kvs.length≤sizeLine∧(a==sysModules)=false∧∃vs,KV kvs vs∧h.DictOf (Ye P w) a vs:=Gv ok (.inl e)
theorem Qk(ok:HOk P w H h)(e:H a=some (.tup (ks.map kV))):(tupleKind (Ye P w)).is h ks a:=by
 obtain⟨_,its,r,o,h1,h2,n,h3⟩:=(show X6 P w H h a (.tup (ks.map kV)) from ok a _ e)
 exact⟨o,its.toArray,n,h1,h2,h3,by simpa using Jx r⟩
theorem Z45(ok:HOk P w H h)(e:Rd H a (.dT kvs)):kvs.length≤sizeLine∧(a==sysModules)=false∧
  ∃xs,KT H kvs xs∧h.DictOfH (tupleKind (Ye P w)) a xs:=by
 obtain⟨z,y,xs,r,o,es,ep,h1,h2,h3,h4,h5⟩:=(show X6 P w H h a (.dT kvs) from Y60 ok e)
 refine⟨z,y,xs,r,o,es,ep,h1,h2,h3,h4,fun x hx=>?_,h5⟩
 have all:∀{l:List (List Key×V)} {m:List (List Key×Addr×Value)},KT H l m→∀x∈m,(tupleKind (Ye P w)).is h x.1 x.2.1:=by
  intro l m q
  induction q with
  | nil=>intro x hx;exact nomatch hx
  | @cons p q ps qs hq t ih=>
   intro x hx
   rcases Aw.mp hx with e | hx
   ·subst e
    exact Qk ok (by rw[←hq.1];exact hq.2.1)
   ·exact ih x hx
 exact all r x hx
theorem Ya1(ok:HOk P w H h)(e:H a=some (.dT kvs)):kvs.length≤sizeLine∧(a==sysModules)=false∧
  ∃xs,KT H kvs xs∧h.DictOfH (tupleKind (Ye P w)) a xs:=Z45 ok (.inl e)
end
def DGet(H:Hp)(a:Addr)(y:V)(r:Option V):Prop:=
 (∃kvs k,Rd H a (.dK kvs)∧y=kV k∧r=valV kvs k)∨∃kvs k b,Rd H a (.dT kvs)∧y= .ref b∧H b=some (.tup (k.map kV))∧r=valV kvs k
def DPut(H:Hp)(a:Addr)(y v:V)(H':Hp):Prop:=
 (∃kvs k,H a=some (.dK kvs)∧y=kV k∧kvs.length<sizeLine∧H'=upd H a (.dK (putK kvs k v)))∨
 ∃kvs k b,H a=some (.dT kvs)∧y= .ref b∧H b=some (.tup (k.map kV))∧kvs.length<sizeLine∧H'=upd H a (.dT (putK kvs k v))
theorem DGet.k{a:Addr}{k:Key}(e:H a=some (.dK kvs)):DGet H a (kV k) (valV kvs k):= .inl ⟨kvs,k,.inl e,rfl,rfl⟩
theorem DGet.t{a b:Addr}{k:List Key}(e:H a=some (.dT kvs))(eb:H b=some (.tup (k.map kV))):DGet H a (.ref b) (valV kvs k):= .inr ⟨kvs,k,b,.inl e,rfl,eb,rfl⟩
theorem DPut.k{a:Addr}{k:Key}{v:V}(e:H a=some (.dK kvs))(hl:kvs.length<sizeLine):DPut H a (kV k) v (upd H a (.dK (putK kvs k v))):= .inl ⟨kvs,k,e,rfl,hl,rfl⟩
theorem DPut.t{a b:Addr}{k:List Key}{v:V}(e:H a=some (.dT kvs))(eb:H b=some (.tup (k.map kV)))(hl:kvs.length<sizeLine):
  DPut H a (.ref b) v (upd H a (.dT (putK kvs k v))):= .inr ⟨kvs,k,b,e,rfl,eb,hl,rfl⟩
section
variable{X:Cx}{pins:List (Addr×Obj)}{σ:St}{H:Hp}{s:Shared}{a:Addr}{y v:V}{u r:Value}{o:Option V}{A:Around}{E:Value→Shared→Prop}
theorem Inv.big(I:Inv X pins σ H s):sysModules<s.heap.objs.size:=by
 have h:mainGlobals<s.heap.objs.size:=(I.mod.glob.keeps I.bk).lt
 exact Nat.lt_trans (by decide) h
theorem Za2(hu:A.units+1<cLine)(I:Inv X pins σ H s)(g:DGet H a y (some v))(ry:RelV y u)(h:∀w' s',Inv X pins σ H s'→RelV v w'→Q w' s'):
  wpAny (model X.prog X.w) A (getItem (.ref a) u) Q E s:=by
 rcases g with⟨kvs,k,e,ey,l⟩ | ⟨kvs,k,b,e,ey,eb,l⟩
 ·subst ey
  obtain⟨z,hd,vs,rel,dd⟩:=Gv I.hok e
  obtain⟨w',hw,rw'⟩:=RelO.some_of (v:=v) (o:=valueAt vs k) (by rw[l];exact rel.val k)
  exact wpAny_getItem_of (G9 ry) dd.mapOf hw (h w' _ (I.tok _) rw')
 ·subst ey
  cases (show u=Value.ref b from ry)
  obtain⟨z,hd,xs,rel,dd⟩:=Z45 I.hok e
  obtain⟨w',hw,rw'⟩:=RelO.some_of (v:=v) (o:=(atKey xs k).map (·.2)) (by rw[l];exact rel.val k)
  obtain⟨p,hp,hp2⟩:=Dm.mp hw
  refine wpAny_getItem_heap (Ka hu) (Qk I.hok eb) dd hp ?_
  rw[hp2]
  exact h w' _ (I.tok _) rw'
theorem d_in(hu:A.units+1<cLine)(I:Inv X pins σ H s)(g:DGet H a y o)(ry:RelV y u)(h:∀s',Inv X pins σ H s'→Q (.bool o.isSome) s'):
  wpAny (model X.prog X.w) A (compareOp .In u (.ref a)) Q E s:=by
 rcases g with⟨kvs,k,e,ey,l⟩ | ⟨kvs,k,b,e,ey,eb,l⟩
 ·subst ey
  obtain⟨z,hd,vs,rel,dd⟩:=Gv I.hok e
  refine wpAny_in_of (G9 ry) hd dd.mapOf ?_
  rw[←(rel.val k).isSome_eq,←l]
  exact h _ (I.tok _)
 ·subst ey
  cases (show u=Value.ref b from ry)
  obtain⟨z,hd,xs,rel,dd⟩:=Z45 I.hok e
  refine wpAny_in_heap (Ka hu) (Qk I.hok eb) hd dd ?_
  have q:=(rel.val k).isSome_eq
  rw[Option.isSome_map] at q
  rw[←q,←l]
  exact h _ (I.tok _)
theorem Zx1(hu:A.units+1<cLine)(I:Inv X pins σ H s)(g:DGet H a y o)(ry:RelV y u)(h:∀s',Inv X pins σ H s'→Q (.bool (!o.isSome)) s'):
  wpAny (model X.prog X.w) A (compareOp .NotIn u (.ref a)) Q E s:=by
 rcases g with⟨kvs,k,e,ey,l⟩ | ⟨kvs,k,b,e,ey,eb,l⟩
 ·subst ey
  obtain⟨z,hd,vs,rel,dd⟩:=Gv I.hok e
  refine wpAny_notIn_of (G9 ry) hd dd.mapOf ?_
  rw[←(rel.val k).isSome_eq,←l]
  exact h _ (I.tok _)
 ·subst ey
  cases (show u=Value.ref b from ry)
  obtain⟨z,hd,xs,rel,dd⟩:=Z45 I.hok e
  refine wpAny_notIn_heap (Ka hu) (Qk I.hok eb) hd dd ?_
  have q:=(rel.val k).isSome_eq
  rw[Option.isSome_map] at q
  rw[←q,←l]
  exact h _ (I.tok _)
theorem J8(I:Inv X pins σ H s)(mu:Mut (H a))(hs:Il a s.heap h')(he:∃q,h'.get? a=some q)(new:X6 X.prog X.w (upd H a ob) h' a ob):
  Inv X pins σ (upd H a ob) {s with heap:=h',toks:=t'}:=
 I.write (x:=a) (e:=a) mu (.inl rfl) (fun b q hb z=>(hs.2 b hb).trans z) he new
theorem C1(z:kvs.length≤sizeLine)(hd:(a==sysModules)=false)(rel:KV kvs vs)(dd:h'.DictOf (Ye P w) a vs):
  X6 P w H' h' a (.dK kvs):=⟨z,hd,vs,rel,dd⟩
theorem Z80(hu:A.units+1<cLine)(I:Inv X pins σ H s)(g:DPut H a y v H')(ry:RelV y u)(rv:RelV v r)(h:∀s',Inv X pins σ H' s'→Q () s'):
  wpAny (model X.prog X.w) A (setItem (.ref a) u r) Q E s:=by
 rcases g with⟨kvs,k,e,ey,l,eH⟩ | ⟨kvs,k,b,e,ey,eb,l,eH⟩
 ·subst ey eH
  obtain⟨z,hd,vs,rel,dd⟩:=Z11 I.hok e
  have hz:vs.length≤sizeLine:=by rw[←rel.length];exact z
  have hl:(putK kvs k v).length≤sizeLine:=by have:=Wf kvs k v;omega
  refine wpAny_setItem_pairs (hsz:=hz) (G9 ry) dd fun h' dd' hs=>h _ ?_
  have he:∃q,h'.get? a=some q:=by obtain⟨q,_,_,hq,_⟩:=dd';exact⟨q,hq⟩
  exact J8 I (by rw[e];exact Dy) hs he (C1 hl hd (rel.put k rv) dd')
 ·subst ey eH
  cases (show u=Value.ref b from ry)
  obtain⟨z,hd,xs,rel,dd⟩:=Ya1 I.hok e
  have hz:xs.length≤sizeLine:=by rw[←Paired.length rel];exact z
  have hl:(putK kvs k v).length≤sizeLine:=by have:=Wf kvs k v;omega
  refine wpAny_setItem_heap (hsz:=hz) (Ka hu) (Qk I.hok eb) dd fun h' dd' hs=>h _ ?_
  obtain⟨q,es,ep,hq,h2,h3,h4,_,h5⟩:=dd'
  refine J8 I (by rw[e];exact Dy) hs ⟨q,hq⟩ ⟨hl,hd,_,(rel.put k eb rv).keeps fun c ys ec=>?_,q,es,ep,hq,h2,h3,h4,h5⟩
  rw[Za (Y84 ec e (fun z=>nomatch z))]
  exact ec
end
section
variable{X:Cx}{pins:List (Addr×Obj)}{σ:St}{H:Hp}{s:Shared}{a:Addr}{kvs:List (Key×V)}{k:Key}{u:Value}{A:Around}{E:Value→Shared→Prop}
theorem Ye4(I:Inv X pins σ H s)(e:Rd H a (.dK kvs))(h:∀t s',Inv X pins σ H s'→Q (.int kvs.length t) s'):wpAny (model X.prog X.w) A (call (.builtin "len") [.ref a]) Q E s:=by
 obtain⟨z,hd,vs,rel,dd⟩:=Gv I.hok e
 refine call_len_dict hd dd (by rw[←rel.length];rw[Kn] at z;omega) ?_
 rw[←rel.length]
 exact h _ _ (I.tok _)
end
theorem E4{s:Shared}{a:Addr}{y:V}(I:Inv X pins σ H s)(g:DGet H a y o):s.TypeIs (.ref a) "dict":=by
 rcases g with⟨kvs,k,e,_,_⟩ | ⟨kvs,k,b,e,_,_,_⟩
 ·obtain⟨_,_,vs,_,dd⟩:=Gv I.hok e
  exact dd.typeIs
 ·obtain⟨_,_,xs,_,dd⟩:=Z45 I.hok e
  exact dd.typeIs
theorem Cq(h:Heap)(hb:sysModules<h.objs.size):X6 P w H (h.push {cls:= .type "dict",data:= .dict #[]}) h.objs.size (.dK []):=
 ⟨Nat.zero_le _,beq_eq_false_iff_ne.mpr (Ch (Nat.ne_of_lt hb)),[],.nil,Heap.DictOf.new h⟩
theorem Zp6(h:Heap)(hb:sysModules<h.objs.size):X6 P w H (h.push {cls:= .type "dict",data:= .dict #[]}) h.objs.size (.dT []):=
 ⟨Nat.zero_le _,beq_eq_false_iff_ne.mpr (Ch (Nat.ne_of_lt hb)),[],.nil,_,#[],0,Aq _ rfl,⟨rfl,rfl,rfl⟩,rfl,rfl,List.nodup_nil⟩
def Y65:TE:=fun _ H Q=>∀p,H p=none→Q (.ref p) (upd H p (.dK []))
def Yc5:TE:=fun _ H Q=>∀p,H p=none→Q (.ref p) (upd H p (.dT []))
section
variable{X:Cx}{pos:Pos}
theorem Zn9:PE X (.Dict [] [] pos) Y65:=fun pins s σ H Q I h=>
 wpAny_Dict_empty ⟨.ref s.heap.objs.size,_,I.laid (a:=s.heap.objs.size) (o:= .dK []) (t':=s.toks) (fun _ _ q=>Ae _ q) (Nat.le_refl _) (Cq s.heap I.big),rfl,h _ (I.hok.fresh (Nat.le_refl _))⟩
theorem Zf8:PE X (.Dict [] [] pos) Yc5:=fun pins s σ H Q I h=>
 wpAny_Dict_empty ⟨.ref s.heap.objs.size,_,I.laid (a:=s.heap.objs.size) (o:= .dT []) (t':=s.toks) (fun _ _ q=>Ae _ q) (Nat.le_refl _) (Zp6 s.heap I.big),rfl,h _ (I.hok.fresh (Nat.le_refl _))⟩
end
def Z95:List (TE×TE)→St→Hp→(List (V×V)→Hp→Prop)→Prop
 | [],_,H,Q=>Q [] H
 |(tk,tv)::r,σ,H,Q=>tk σ H fun x H1=>tv σ H1 fun y H2=>Z95 r σ H2 fun ps H3=>Q ((x,y)::ps) H3
abbrev VV:List (V×V)→List (Value×Value)→Prop:=Paired fun p q=>RelV p.1 q.1∧RelV p.2 q.2
def PPs(X:Cx)(pos:Pos)(keys:List (Option Expr))(values:List Expr)(trs:List (TE×TE)):Prop:=
 ∀(pins:List (Addr×Obj)) (s:Shared) (σ:St) (H:Hp) (Q:List (V×V)→Hp→Prop),Inv X pins σ H s→Z95 trs σ H Q→
  wpAny (model X.prog X.w) X.A (evalPairs (pairTrees keys values X.env pos)) (fun vs s'=>∃ps H',Inv X pins σ H' s'∧VV ps vs∧Q ps H') X.xe s
theorem Zt4:PPs X pos [] [] []:=fun pins s σ H Q I h=>pairTrees_nil_walk ⟨[],H,I,.nil,h⟩
theorem Zg3{k v:Expr}(hk:PE X k tk)(hv:PE X v tv)(hr:PPs X pos ks vs trs):
  PPs X pos (some k::ks) (v::vs) ((tk,tv)::trs):=fun pins s σ H Q I h=>
 pairTrees_cons_walk (thn (hk pins s σ H _ I h) fun u s1 ⟨x,H1,I1,rx,q1⟩=>thn (hv pins s1 σ H1 _ I1 q1) fun w2 s2 ⟨y,H2,I2,ry,q2⟩=>
  thn (hr pins s2 σ H2 _ I2 q2) fun ws s3 zz40=>by obtain⟨ps,H3,I3,rel,q3⟩:=zz40;exact⟨(x,y)::ps,H3,I3,.cons ⟨rx,ry⟩ rel,q3⟩)
noncomputable def Oj(kvs more:List (Key×V)):List (Key×V):=more.foldl (fun acc kv=>putK acc kv.1 kv.2) kvs
theorem KV.merge:∀{more:List (Key×V)} {rs:List (Key×Value)} {kvs:List (Key×V)} {vs:List (Key×Value)},KV more rs→KV kvs vs→KV (Oj kvs more) (merged vs rs):=by
 intro more rs kvs vs r
 unfold KV at r
 induction r generalizing kvs vs with
 | nil=>intro q;exact q
 | @cons p q ps qs h t ih=>
  intro r0
  have e:KV (putK kvs p.1 p.2) (stored vs q.1 q.2):=by
   have:=r0.put p.1 h.2
   rw[←h.1];exact this
  exact ih e
theorem Sf:∀(more kvs:List (Key×V)),(Oj kvs more).length≤kvs.length+more.length
 | [],kvs=>by show kvs.length≤kvs.length+0;omega
 | p::r,kvs=>by
  have h1:=Sf r (putK kvs p.1 p.2)
  have h2:=Wf kvs p.1 p.2
  show(Oj (putK kvs p.1 p.2) r).length≤_
  rw[An];omega
theorem Oq:∀{kvs:List (Key×V)} {ws:List (Value×Value)},VV (kvs.map fun kv=>(kV kv.1,kv.2)) ws→∃rs,Carries (Ye P w) ws rs∧KV kvs rs
 | [],_,r=>by rw[Ih] at r;cases r;exact⟨[],Dy,.nil⟩
 | p::kvs,_,r=>by
  rw[Dd] at r
  cases r with
  | @cons a b as bs h t=>
   obtain⟨rs,c,q⟩:=Oq (P:=P) (w:=w) t
   obtain⟨b1,b2⟩:=b
   exact⟨(p.1,b2)::rs,⟨G9 h.1,rfl,c⟩,.cons ⟨rfl,h.2⟩ q⟩
def Yg0(trs:List (TE×TE)):TE:=fun σ H Q=>∀p,H p=none→Z95 trs σ (upd H p (.dK [])) fun ps H2=>H2 p=some (.dK [])∧∃kvs:List (Key×V),ps=kvs.map (fun kv=>(kV kv.1,kv.2))∧kvs.length≤15∧Q (.ref p) (upd H2 p (.dK (Oj [] kvs)))
theorem Zw5(h:PPs X pos keys values trs)(hall:keys.all (·.isSome)=true)(hl:keys.length=values.length)(h0:keys≠[])
  (h15:keys.length≤15):PE X (.Dict keys values pos) (Yg0 trs):=by
 intro pins s σ H Q I q
 have hn:=I.hok.fresh (Nat.le_refl s.heap.objs.size)
 have I1:=I.laid (a:=s.heap.objs.size) (o:= .dK []) (h':=s.heap.push {cls:= .type "dict",data:= .dict #[]}) (t':=s.toks) (fun _ _ q=>Ae _ q) (Nat.le_refl _) (Cq s.heap I.big)
 refine wpAny_Dict_walk (knd:=Ye X.prog X.w) hall hl h0 h15 (thn (h pins _ σ _ _ I1 (q _ hn)) fun ws s2 zz41=>?_)
 obtain⟨ps,H2,I2,rel,e,kvs,ep,lk,q2⟩:=zz41
 subst ep
 obtain⟨rs,c,rk⟩:=Oq (P:=X.prog) (w:=X.w) rel
 obtain⟨z,hd,vs0,r0,dd⟩:=Z11 I2.hok e
 cases r0
 refine⟨rs,c,dd,fun h' dd' hs=>⟨.ref s.heap.objs.size,_,?_,rfl,q2⟩⟩
 have hz:(Oj [] kvs).length≤sizeLine:=by
  have h1:=Sf kvs []
  rw[Hq] at h1
  rw[Kn];omega
 have he:∃q,h'.get? s.heap.objs.size=some q:=by obtain⟨q,_,_,hq,_⟩:=dd';exact⟨q,hq⟩
 exact J8 I2 (by rw[e];exact Dy) hs he (C1 hz hd (rk.merge .nil) dd')
structure M1(X:Cx)(o:Expr)(m:Str)(apos:Pos)(e:Expr)(cpos:Pos):Prop where
 base:attributeBase o m X.env (eval o X.env)=eval o X.env
 few:((backTo cpos (starEach [e] X.env)).all (fun x=> !x.1)&&(backToKw cpos (keywordEach [] X.env)).all (fun x=>x.1.isSome)
  &&decide (([e]:List Expr).length+([]:List Keyword).length+(if ([]:List Keyword).isEmpty then 0 else 1)<30))=true
 line:(apos.endLine==cpos.line)=true
 trees:backTo cpos (starEach [e] X.env)=[(false,eval e X.env)]
structure M2(X:Cx)(o:Expr)(m:Str)(apos:Pos)(e f:Expr)(cpos:Pos):Prop where
 base:attributeBase o m X.env (eval o X.env)=eval o X.env
 few:((backTo cpos (starEach [e,f] X.env)).all (fun x=> !x.1)&&(backToKw cpos (keywordEach [] X.env)).all (fun x=>x.1.isSome)
  &&decide (([e,f]:List Expr).length+([]:List Keyword).length+(if ([]:List Keyword).isEmpty then 0 else 1)<30))=true
 line:(apos.endLine==cpos.line)=true
 trees:backTo cpos (starEach [e,f] X.env)=[(false,eval e X.env),(false,eval f X.env)]
section
variable{X:Cx}{pins:List (Addr×Obj)}{σ:St}{H:Hp}{s:Shared}{a:Addr}{y d:V}{u r:Value}{o:Option V}{A:Around}{E:Value→Shared→Prop}
theorem Y98(hu:A.units+1<cLine)(I:Inv X pins σ H s)(g:DGet H a y o)(ry:RelV y u)(rd:RelV d r)(h:∀w' s',Inv X pins σ H s'→RelV (o.getD d) w'→Q w' s'):
  wpAny (model X.prog X.w) A (call (.builtin "dict.get") [.ref a,u,r]) Q E s:=by
 rcases g with⟨kvs,k,e,ey,l⟩ | ⟨kvs,k,b,e,ey,eb,l⟩
 ·subst ey
  obtain⟨z,hd,vs,rel,dd⟩:=Gv I.hok e
  refine call_meetsIn PySem.F.slot_dict_get dd.typeIs PySem.F.entry_dict_get (PySem.F.args_dict_get_3 _ _ _) (meets_dict_get_default (Ye X.prog X.w) a (G9 ry) hd r) ⟨_,dd.mapOf,h _ _ (I.tok _) ?_⟩
  rw[l]
  exact(rel.val k).getD rd
 ·subst ey
  cases (show u=Value.ref b from ry)
  obtain⟨z,hd,xs,rel,dd⟩:=Z45 I.hok e
  refine call_meetsIn PySem.F.slot_dict_get dd.typeIs PySem.F.entry_dict_get (PySem.F.args_dict_get_3 _ _ _) (meetsH_dict_get_default (tupleKind (Ye X.prog X.w)) a b hd r) ⟨Ka hu,k,xs,Qk I.hok eb,dd,h _ _ (I.tok _) ?_⟩
  rw[l]
  exact(rel.val k).getD rd
end
section
variable{X:Cx}{pins:List (Addr×Obj)}{σ:St}{H:Hp}{s:Shared}{a:Addr}{kvs:List (Key×V)}{A:Around}{E:Value→Shared→Prop}
theorem Zn2(I:Inv X pins σ H s)(e:Rd H a (.dK kvs))(h:∀p s',H p=none→Inv X pins σ (upd H p (.dK kvs)) s'→Q (.ref p) s'):wpAny (model X.prog X.w) A (call (.type "dict") [.ref a]) Q E s:=by
 obtain⟨z,hd,vs,rel,dd⟩:=Gv I.hok e
 refine kt_call_dict hd dd (by rw[←rel.length];exact z) fun h' dd' hs=>?_
 refine h _ _ (I.hok.fresh (Nat.le_refl _)) (I.laid (a:=s.heap.objs.size) (o:= .dK kvs) (t':=s.toks) (fun b q hq=>?_) (Nat.le_refl _) (C1 z (beq_eq_false_iff_ne.mpr (Ch (Nat.ne_of_lt I.big))) rel dd'))
 exact(hs.2 b (Nat.ne_of_lt (Aj hq))).trans (Ae _ hq)
end
end L2
namespace Att
open PySem PySem.W PySem.Calls PyProof.Rows
theorem Pc:∀(ns:List Int) (vs:List Value),WellAll P h vs (ns.map WData.int)→IntsAre vs ns:=by
 intro ns
 induction ns with
 | nil=>
  intro vs w
  rw[Ih] at w
  cases w
  exact .nil
 | cons n ns ih=>
  intro vs w
  rw[Dd] at w
  cases w with
  | cons a b=>
   cases a
   exact .cons _ _ (ih _ b)
theorem script_of{l:OpenLaw}{n:Nat}(hn:l.most=some n){P:Params}{h:Heap}{args:List WData}{vals:List Value}
  (hpre:l.row.toRowW.claim.pre args=true) (hwl:WellAll P h vals args):
  ∃a vs ns,vals=[Value.ref a]∧args=[WData.list (ns.map WData.int)]∧h.get? a=some {cls:= .type "list",data:= .seq vs.toArray}∧IntsAre vs ns∧ns.length≤n:=by
 have hsh:WShape.hasAll [] args [.list .int]=true:=(pre_splitW hpre).1
 have hc:l.pre.holds [] {args:=args}=true:=(pre_splitW hpre).2
 obtain⟨d,r,rfl,h1,h2⟩:=hasAllW_cons hsh
 obtain rfl:=hasAllW_nil h2
 obtain⟨xs,rfl,h3⟩:=hasW_list h1
 obtain⟨ns,rfl⟩:=items_int h3
 have hlen:ns.length≤n:=by
  unfold OpenLaw.pre at hc
  have h4:(WTm.not (.lt (.lit (.int (n:Int))) (.len (.arg 0)))).holds [] {args:=[.list (ns.map .int)]}=true:=by
   have h4:=(holds_andW hc).1
   rw[hn] at h4
   exact h4
  have h5:=condW_of h4 (w_not (w_lt w_lit (w_len_list (w_arg rfl))))
  rw[Ah] at h5
  refine Nat.le_of_not_lt fun q=>?_
  have q':(n:Int)< ((ns.length:Nat):Int):=by omega
  first
   |(rw[decide_eq_true q'] at h5;exact absurd h5 (by decide))
   |(simp at h5;omega)
 cases hwl with
 | cons w1 w2=>
  cases w2
  cases w1 with
  | list ho hall=>exact⟨_,_,ns,rfl,rfl,ho,Pc ns _ hall,hlen⟩
theorem post_true(l:OpenLaw)(args:List WData):l.row.toRowW.claim.post args (.bool true) args=true:=
 postW_of (r:=l.row.toRowW) (X:=(true==true))
  (show WShape.has [] (.bool true) .bool=true by first | rfl | decide | simp[WShape.has,WShape.arms,WShape.armsAll])
  (show(WTm.eq .res (.lit (.bool true))).value [] {args:=args,res:=some (.bool true),after:=args}=some (.bool (true==true)) from w_eq_bool (w_res rfl) w_lit) rfl
end Att
namespace L2
open PySem PySem.Spec PyProof.Rows
theorem Ge:∀{vs:List Value} {ns:List Int},IntsAre vs ns→Vals (ns.map V.int) vs
 | _,_,.nil=> .nil
 | _,_,.cons n t h=> .cons ⟨t,rfl⟩ (Ge h)
def Only(H:Hp):Prop:=∀b,H b=none∨∃o xs,H b=some (.frz o (.lst xs))
theorem Zn3{P:Program}{w:World}{K:Ab}{mg mb:Str→Option Value}{CX:CXT}{k:Nat}{fa a:Addr}{fd:FuncData}{x:Str}{sp:Sp}{s₁:Shared}{vs:List Value}{ns:List Int}
  (KX:K.In s₁.heap) (hns:s₁.heap.Ns mainGlobals mg) (hb:s₁.heap.Ns builtinsNs mb) (hbb:∀x:Str,x≠"__name__"→mb x=bootBuiltins x) (hlim:s₁.heap.NoLimit) (hg:s₁.gens=#[])
  (ha:s₁.heap.get? a=some {cls:= .type "list",data:= .seq vs.toArray}) (hi:IntsAre vs ns) (hl:ns.length≤sizeLine) (hr:Room k callerA)
  (F:∀base:Heap,K.In base→base.Ns mainGlobals mg→FnOk P w K mg base CX k fa fd [x] sp) (hbind:∀(s:Shared) (u:Value),BindsTo s fd ⟨[u],[]⟩ [(x,u)])
  (hsp:∀H:Hp,Only H→SqL K H a (ns.map V.int)→sp [.ref a] H (fun v _=>v= .bl true) fun _ _ _=>False)
  (hCX:∀H e s',CX [] H s₁ (fun _ _ _=>False) e s'→False):
  codeAny (model P w) callerA (.call (.ref fa) ⟨[.ref a],[]⟩) (fun r s'=>r= .ok (.ret (.bool true))∧OldK s₁.heap s'.heap∧s'.os=s₁.os∧AllBare s'.gens) s₁:=by
 have rv:=Ge hi
 have lenV:=hi.length
 have core:∀H:Hp,Only H→SqL K H a (ns.map V.int)→HOk P w H s₁.heap→(∀b,H b≠none→b=a)→(H a≠none→K.lookup a=none)→
   codeAny (model P w) callerA (.call (.ref fa) ⟨[.ref a],[]⟩) (fun r s'=>r= .ok (.ret (.bool true))∧OldK s₁.heap s'.heap∧s'.os=s₁.os∧AllBare s'.gens) s₁:=by
  intro H hO hS hok hA hK
  have base_of:∀{b:Addr} {o:Obj},s₁.heap.get? b=some o→H b=none→(hidT s₁.heap H).get? b=some o:=fun e n=>Zj0 e n
  have noA:∀{b:Addr} {o:Obj} {es:Array DictEntry} {ep:Nat},s₁.heap.get? b=some o→o.data= .dict es ep→H b=none:=fun{b o es ep} e d=>by
   cases q:H b with
   | none=>rfl
   | some u=>
    have e':b=a:=hA b (by rw[q];simp)
    subst e'
    rw[ha] at e;cases e
    have d':Data.seq vs.toArray _=Lw es ep:=d
    cases d'
  have nsK:∀{b:Addr} {m:Str→Option Value},s₁.heap.Ns b m→(hidT s₁.heap H).Ns b m:=fun{b m} zz42=>by obtain⟨o,es,ep,e,d,r⟩:=zz42;exact⟨o,es,ep,base_of e (noA e d),d,r⟩
  have hKb:K.In (hidT s₁.heap H):=fun b o e=>base_of (KX b o e) (by
   cases q:H b with
   | none=>rfl
   | some u=>
    have e':b=a:=hA b (by rw[q];simp)
    subst e'
    rw[hK (by rw[q];simp)] at e;cases e)
  have hM:Mod K mg (hidT s₁.heap H):=⟨hKb,nsK hns,⟨mb,nsK hb,hbb⟩,let ⟨mc,h1,h2⟩:=hlim;⟨mc,nsK h1,h2⟩⟩
  have e0:Env0 P w K mg (hidT s₁.heap H) callerA [] s₁ H:=⟨rfl,hM,fun b o e=>Zt8 e,Nat.le_of_eq (Ze7 _ _),trivial,fun b hb=>absurd (show b∈([]:List Addr) from hb) (by simp),hok,.of_eq hg⟩
  refine Ix ((F _ hKb (nsK hns)).run callerA [] s₁ H ⟨[.ref a],[]⟩ [.ref a] [.ref a] _ _ hr e0 (hbind s₁ (.ref a)) (.cons rfl .nil) (hsp H hO hS)) fun r s' h=>?_
  cases r with
  | error e=>exact(hCX H e s' h).elim
  | ok fl=>
   cases fl with
   | next=>exact De h
   | brk=>exact De h
   | cont=>exact De h
   | ret u=>
    obtain⟨v,H',os,bare,un,hok',r',q⟩:=h
    have q':v= .bl true:=q
    subst q'
    obtain rfl:u=Value.bool true:=r'
    refine⟨rfl,OldK.of_keep fun b o e=>?_,os,bare⟩
    cases q:H b with
    | none=>exact un.keep b o e q (by intro z;exact absurd (show b∈([]:List Addr) from z) (by simp)) (by simp)
    | some u=>
     rcases hO b with z | ⟨ob,xs,z⟩
     ·rw[q] at z;cases z
     ·have z2:=un.frzs b ob _ z
      obtain⟨e1,_⟩:=hok b _ z
      obtain⟨e2,_⟩:=hok' b _ z2
      rw[e] at e1;cases e1
      exact e2
 cases hk:K.lookup a with
 | some o=>
  have e:=KX a o hk
  rw[ha] at e
  cases e
  refine core (fun _=>none) (fun _=> .inl rfl) (.inr ⟨_,vs.toArray,_,hk,rfl,rfl,rfl,by rw[Ak,lenV];exact hl,by simpa using rv⟩) (fun b u z=>by have z':(none:Option HO)=some u:=z;cases z') (fun b z=>absurd rfl z) fun z=>absurd rfl z
 | none=>
  refine core (fun b=>if b=a then some (.frz {cls:= .type "list",data:= .seq vs.toArray} (.lst (ns.map V.int))) else none) (fun b=>?_) (.inl (.inr ⟨{cls:= .type "list",data:= .seq vs.toArray},if_pos rfl⟩)) (fun b u z=>?_) (fun b z=>?_) fun _=>hk
  ·by_cases hb:b=a
   ·exact .inr ⟨_,_,if_pos hb⟩
   ·exact .inl (if_neg hb)
  ·by_cases hb:b=a
   ·have z':=(if_pos hb).symm.trans z
    cases z'
    subst hb
    exact⟨ha,by rw[Ah];exact hl,vs,_,rv,ha⟩
   ·have z':=(if_neg hb).symm.trans z
    cases z'
  ·by_cases hb:b=a
   ·exact hb
   ·exact absurd (if_neg hb) z
end L2
/- THE LAST THEOREM (shape;LID,My.* are yours):
  My.Adr:a structure of the addresses that your layer names (classes,functions);My.Txt K t:a structure (Prop) of the equations over K;
  My.txt_mk:{K} {implicit addresses ..} (e1:nsIn K mainGlobals "law"=some (some (.ref f))) (e2:K.lookup f=some ⟨oc,od,.func (fnOf "law" "law" params body scope dV kV doc pm an cdv ct),sl⟩) (e3:codeIn K cdv "law"=true) ..:∃t,My.Txt K t
set_option maxRecDepth 100000 in
set_option maxHeartbeats 0 in
theorem PySem.Challenge.cw_LID_holds : PySem.Challenge.rw_LID.Holds := by
 w_on;o_law;k_head;(case hw=>w_witness2)
 k_fill
 refine L2.walk_of (l:=PySem.Challenge.rw_LID) (n:=63) (k:=40) (x:="script") (CX:=fun w=> ..) (sp:=fun _=>My.sp_law) rfl (by decide) rfl ⟨rfl,by decide,by decide⟩ (fun w h Y=>PySem.W.kIn_of Y) ?F ?S ?C
 case F=>
  intro w mg fa h KX G hmg
  have T:∃t,My.Txt (L2.KOf KX) t:=by
   dsimp only[L2.KOf] -- K must stand as «<heap const>w.params» for k_is
   refine' My.txt_mk ?e1 ?e2 ?e3 ..
   (case e1=>PySem.W.k_is) -- in the order:a name ->its address ->its object ->its parts
   (case e2=>PySem.W.k_is)
   ..
  obtain⟨t,T⟩:=T
  have e0:=hmg.symm.trans (As KX G T.law)
  cases e0 -- fa is the law's own address
  exact⟨_,fun s u=> .of_eq rfl,fun base kb nb=>My.law_fn T kb nb⟩ -- if «.of_eq rfl» comes too early:refine' ⟨_,?b,fun base kb nb=>My.law_fn T kb nb⟩;exact fun s u=> .of_eq rfl
 case S=>exact fun w H a ns hl hO hS=> ..
 case C=>exact ..
(the tactic k_is has no namespace:write k_is) -/
namespace L2
open PySem PySem.Spec PyProof.Rows
noncomputable def Zh(s:Stmt):Arguments:=match s with
 | .FunctionDef _ a _ _ _ _ _ _ _ _=>a
 | _=>{posonlyargs:=[],args:=[],vararg:=none,kwonlyargs:=[],kw_defaults:=[],kwarg:=none,defaults:=[]}
noncomputable def Z4(s:Stmt):List Stmt:=match s with
 | .FunctionDef _ _ b _ _ _ _ _ _ _=>b
 | _=>[]
noncomputable def Z1(s:Stmt):Scope:=match s with
 | .FunctionDef _ _ _ _ _ _ sc _ _ _=>sc
 | _=>{kind:= .function,names:=[],isGenerator:=false,isCoroutine:=false}
noncomputable abbrev CX0:CXT:=fun _ _ _ _ _ _=>False
abbrev E0:XK:=fun _ _ _=>False
structure Fun(K:Ab)(x qual:Str)(st:Stmt)(f:Addr)(fd:FuncData):Prop where
 ex:∃(oc:Value) (od:Option Addr) (dV kV doc pm:Value) (an:Option Addr) (cdv ct:Value) (osl:Array (Option Value)),
  fd=Au x qual (Zh st) (Z4 st) (Z1 st) dV kV doc pm an cdv ct∧K.lookup f=some ⟨oc,od,.func fd,osl⟩∧Ar K cdv qual=true
 kp:Ad K (.ref f)=true
section
variable{P:Program}{w:World}{K:Ab}{mg:Str→Option Value}{base:Heap}
theorem Fun.ok{x qual:Str}{st:Stmt}{f:Addr}{fd:FuncData}{N ps:List Str}{k:Nat}{sp:Sp}(F:Fun K x qual st f fd)(S:FnScope N ps (Z1 st))(len:∀vs H Q E,sp vs H Q E→vs.length=ps.length)
  (hbody:∀(cdv:Value) (A:Around) (outer:List Env) (s:Shared) (H:Hp) (vs:List V) (Q:VK) (E:XK),Room k (A.deeper (envOfC qual (Z1 st) s.heap.objs.size f cdv))→sp vs H Q E→
   ∃t,PSs (cxOf CX0 P w K mg base N qual (Z1 st) f cdv A outer s H E).nox (Z4 st) t∧t {nx:=fun _ H'=>Q .non H',rt:=Q} (start N vs) H):FnOk P w K mg base CX0 (k+1) f fd ps sp:=by
 obtain⟨oc,od,dV,kV,doc,pm,an,cdv,ct,osl,rfl,lk,hcd⟩:=F.ex
 refine Zt9 lk hcd S len fun A outer s H vs Q E hr hsp=>?_
 obtain⟨t,h,q⟩:=hbody cdv A outer s H vs Q E hr hsp
 exact⟨t,h.nox,q⟩
theorem Y9{x qual:Str}{st:Stmt}{f:Addr}{oc:Value}{od an:Option Addr}{osl:Array (Option Value)}{dV kV doc pm cdv ct:Value}(l:K.lookup f=some ⟨oc,od,.func (Au x qual (Zh st) (Z4 st) (Z1 st) dV kV doc pm an cdv ct),osl⟩)
  (c:Ar K cdv qual=true) (k:Ad K (.ref f)=true):Fun K x qual st f (Au x qual (Zh st) (Z4 st) (Z1 st) dV kV doc pm an cdv ct):=⟨⟨oc,od,dV,kV,doc,pm,an,cdv,ct,osl,rfl,l,c⟩,k⟩
end
section
variable{X:Cx}
theorem Za3:Tw X (.builtin "len") (fun xs H Q=>∃a kvs,xs=[V.ref a]∧H a=some (.dK kvs)∧Q (.int kvs.length) H):=by
 intro pins s σ H xs us Q I r h
 obtain⟨a,kvs,rfl,ha,q⟩:=h
 obtain⟨u,rfl,ru⟩:=Jc r
 cases ru
 exact Ye4 I (.inl ha) fun t s' I'=>⟨.int kvs.length,H,I',⟨t,rfl⟩,q⟩
end
end L2
namespace L3
open PySem PySem.Spec PyProof.Rows L2
def Bits(n:Nat)(x:Int):Prop:=x.natAbs<2 ^ n
theorem Z03{m n:Nat}(h:m<2 ^ n)(hn:0<n):m.log2<n:=by
 rcases Nat.eq_zero_or_pos m with h0 | h0
 ·rw[h0];exact hn
 ·exact(Nat.log2_lt (Nat.ne_of_gt h0)).mpr h
section
variable{X:Cx}
def Z86(_ j:Int):Prop:=j≠0∧j.natAbs.log2<9000
theorem Zi3:OpR X (binaryOp .FloorDiv) (rI Z86 fun i j=> .int (i.fdiv j)):=opI fun _ _ _ _ _ _ _ hc q=>floordiv_int hc.1 q (.inl (PyProof.noPylong_of_log2 hc.2))
theorem Y04:OpR X (binaryOp .Mult) (rI IntMulOk fun i j=> .int (i * j)):=opI fun _ _ _ _ _ _ _ hc q=>mul_int q hc
def rIsB(K:Ab):List V→Hp→VK→Prop:=fun xs H Q=>∃x n t b,xs=[x,.ty n]∧TyOf K H x t∧Hf K t (.type n)=some b∧Q (.bl b) H
theorem Zl9:Tw X (.builtin "isinstance") (rIsB X.K):=by
 intro pins s σ H xs us Q I r h
 obtain⟨x,n,t,b,rfl,ty,e,q⟩:=h
 obtain⟨u,v,rfl,ru,rv⟩:=Ni r
 obtain rfl:v=Value.type n:=rv
 exact Z51 I ru ty e fun tk=>⟨.bl b,H,I.tok tk,rfl,q⟩
end
mutual
def Rep(K:Ab)(H:Hp):PyData→V→Prop
 | .none,v=>v= .non
 | .bool b,v=>v= .bl b
 | .int i,v=>v= .int i
 | .str x,v=>v= .str x
 | .list ds,v=>∃a xs,v= .ref a∧SqL K H a xs∧Wy K H ds xs
 | .tuple ds,v=>∃a xs,v= .ref a∧SqT K H a xs∧Wy K H ds xs
 | .dict _,_=>False
def Wy(K:Ab)(H:Hp):List PyData→List V→Prop
 | [],xs=>xs=[]
 | d::ds,xs=>∃v vs,xs=v::vs∧Rep K H d v∧Wy K H ds vs
end
section
variable{X:Cx}{pins:List (Addr×Obj)}{σ:L2.St}{H:Hp}{s:Shared}
mutual
theorem Rep.reads(I:Inv X pins σ H s):∀(d:PyData) (v:V) (u:Value),Rep X.K H d v→RelV v u→∃as,Reads s.heap u d as
 | .none,v,u,h,r=>by
  unfold Rep at h;subst h
  cases (show u=Value.none from r)
  exact⟨[],.none⟩
 | .bool b,v,u,h,r=>by
  unfold Rep at h;subst h
  cases (show u=Value.bool b from r)
  exact⟨[],.bool b⟩
 | .int i,v,u,h,r=>by
  unfold Rep at h;subst h
  obtain⟨t,rfl⟩:=(show ∃t,u=Value.int i t from r)
  exact⟨[],.int i t⟩
 | .str x,v,u,h,r=>by
  unfold Rep at h;subst h
  obtain⟨t,rfl⟩:=(show ∃t,u=Value.str x t from r)
  exact⟨[],.str x t⟩
 | .list ds,v,u,h,r=>by
  unfold Rep at h
  obtain⟨a,xs,rfl,hq,ha⟩:=h
  cases (show u=Value.ref a from r)
  obtain⟨its,rv,⟨o,n,h1,h2,_,h4⟩,_⟩:=I.list hq
  obtain⟨as,hr⟩:=Wy.reads I ds xs its ha rv
  exact⟨_,.list h1 h2 h4 hr⟩
 | .tuple ds,v,u,h,r=>by
  unfold Rep at h
  obtain⟨a,xs,rfl,hq,ha⟩:=h
  cases (show u=Value.ref a from r)
  obtain⟨its,rv,⟨o,h1,h2,n,h4⟩,_⟩:=I.tuple hq
  obtain⟨as,hr⟩:=Wy.reads I ds xs its ha rv
  exact⟨_,.tuple h1 h2 h4 hr⟩
 | .dict kvs,v,u,h,r=>by
  unfold Rep at h
  exact h.elim
theorem Wy.reads(I:Inv X pins σ H s):∀(ds:List PyData) (xs:List V) (us:List Value),Wy X.K H ds xs→Vals xs us→∃as,ReadsAll s.heap us ds as
 | [],xs,us,h,r=>by
  unfold Wy at h;subst h
  cases r
  exact⟨[],.nil⟩
 | d::ds,xs,us,h,r=>by
  unfold Wy at h
  obtain⟨v,vs,rfl,h1,h2⟩:=h
  cases r with
  | cons r1 r2=>
   obtain⟨as,q1⟩:=Rep.reads I d v _ h1 r1
   obtain⟨bs,q2⟩:=Wy.reads I ds vs _ h2 r2
   exact⟨_,.cons q1 q2⟩
end
end
section
variable{X:Cx}
def rEqD(K:Ab)(neg:Bool):R2:=fun x y H Q=>∃da db,Rep K H da x∧Rep K H db y∧da.canLay0=true∧db.canLay0=true∧min da.depth db.depth≤60∧Q (.bl (if neg then !PyData.eqv da db else PyData.eqv da db)) H
theorem Ya7(hu:X.A.units+64<cLine):OpR X (compareOp .Eq) (rEqD X.K false):=by
 intro pins s σ H x y v u Q I rx ry h
 obtain⟨da,db,h1,h2,h3,h4,h5,q⟩:=h
 obtain⟨as,q1⟩:=Rep.reads I da x v h1 rx
 obtain⟨bs,q2⟩:=Rep.reads I db y u h2 ry
 exact PySem.SeqAt.compareEq_reads q1 q2 h3 h4 (by omega) ⟨.bl _,H,I,rfl,q⟩
end
end L3
namespace L3
open PySem PySem.W PySem.Calls PyProof.Rows L2
noncomputable def bigN:Nat:=1048576
theorem Qz:∀(ns:List Int) (i:Int),i∈ns→WData.weight (.int i)≤WData.weightAll (ns.map WData.int)
 | [],_,h=>nomatch h
 | n::r,i,h=>by
  rw[Dd]
  have e:WData.weightAll (WData.int n::r.map WData.int)=WData.weight (.int n)+1+WData.weightAll (r.map WData.int):=by simp[WData.weightAll]
  rw[e]
  rcases Aw.mp h with q | q
  ·subst q;omega
  ·have:=Qz r i q;omega
theorem Qm{ns:List Int}(h:WData.layableAll [WData.list (ns.map WData.int)]=true):∀i∈ns,Bits bigN i:=by
 intro i hi
 have h1:WData.layable (WData.list (ns.map WData.int))=true:=by simpa[WData.layableAll] using h
 unfold WData.layable at h1
 rw[Bool.and_eq_true] at h1
 have h2:WData.weight (WData.list (ns.map WData.int))≤2 ^ 20:=of_decide_eq_true h1.2
 have h3:WData.weight (WData.list (ns.map WData.int))=WData.weightAll (ns.map WData.int):=by simp[WData.weight]
 have h4:=Qz ns i hi
 have h5:WData.weight (.int i)=if i==0 then 0 else i.natAbs.log2+1:=by simp[WData.weight]
 unfold Bits bigN
 by_cases h0:i=0
 ·subst h0;exact Nat.two_pow_pos _
 ·have hb:(i==0)=false:=by simpa using h0
  rw[hb] at h5
  have h6:i.natAbs.log2<1048576:=by
   have:(2:Nat) ^ 20=1048576:=by decide
   simp only[Bool.false_eq_true,if_false] at h5
   omega
  exact(Nat.log2_lt (by omega)).mp h6
theorem Gc{l:OpenLaw}{n:Nat}{q:Program}{loose:List Str}{XP:(Str→Option Value)→Heap→Prop}{YP:World→Heap→Prop}{d:DefRec}(hn:l.most=some n)(hdf:d.params.defaults=[])
  (call:∀(w:World) (s₀ s₁:Shared) (mg mb:Str→Option Value) (fa:Addr) (o:Obj) (pm cd doc:Value) (a:Addr) (vs:List Value) (ns:List Int),
   Ground q loose [] XP w s₀ mg mb s₁.heap→YP w s₁.heap→mg d.name=some (.ref fa)→
   s₁.heap.get? a=some {cls:= .type "list",data:= .seq vs.toArray}→IntsAre vs ns→ns.length≤n→(∀i∈ns,Bits bigN i)→s₁.gens=#[]→
   codeAny (model l.prog w) callerA (.call (.ref fa) ⟨[.ref a],[]⟩) (fun r s'=>r= .ok (.ret (.bool true))∧OldK s₁.heap s'.heap∧s'.os=s₁.os∧AllBare s'.gens) s₁):
  WalkO q loose XP YP l.row.toRowW d [] (fun f vs=>PySem.call f vs):=by
 intro w s₀ s₁ mg mb G Y fa o pm cd doc dV kV ho hd hcd hD hmg hg args vals as hpre hlay hrd hwl hlo
 obtain⟨a,vs,ns,rfl,rfl,hobj,hints,hlen⟩:=Att.script_of hn hpre hwl
 refine enter_call (Ix (call w s₀ s₁ mg mb fa o pm cd doc a vs ns G Y hmg hobj hints hlen (Qm hlay) hg) fun r s' hq=>?_)
 obtain⟨rfl,h2,h3,h4⟩:=hq
 exact⟨.inl ⟨.bool true,.bool true,[],rfl,fun _=>rfl,.bool true,Att.post_true l _,fun _=>⟨List.Pairwise.nil,fun _ hm=>(nomatch hm)⟩⟩,h2,h3,h4⟩
theorem Y54{l:PySem.W.OpenLaw}{n k:Nat}{q:Program}{loose:List Str}{XP:(Str→Option Value)→Heap→Prop}{YP:World→Heap→Prop}{d:DefRec}{K:Params→Ab}{CX:World→CXT}{sp:World→Sp}{x:Str}
  (hn:l.most=some n) (hn2:n≤sizeLine) (hdf:d.params.defaults=[]) (hr:Room k callerA) (hY:∀(w:World) (h:Heap),YP w h→(K w.params).In h)
  (F:∀(w:World) (mg:Str→Option Value) (fa:Addr) (h:Heap),(K w.params).In h→h.Ns mainGlobals mg→mg d.name=some (.ref fa)→
   ∃fd:FuncData,(∀(s:Shared) (u:Value),BindsTo s fd ⟨[u],[]⟩ [(x,u)])∧∀base:Heap,(K w.params).In base→base.Ns mainGlobals mg→FnOk l.prog w (K w.params) mg base (CX w) k fa fd [x] (sp w))
  (hsp:∀(w:World) (H:Hp) (a:Addr) (ns:List Int),ns.length≤n→(∀i∈ns,Bits bigN i)→Only H→SqL (K w.params) H a (ns.map V.int)→sp w [.ref a] H (fun v _=>v= .bl true) fun _ _ _=>False)
  (hCX:∀(w:World) (H:Hp) (s:Shared) (e:Value) (s':Shared),CX w [] H s (fun _ _ _=>False) e s'→False):
  PySem.W.WalkO q loose XP YP l.row.toRowW d [] (fun f vs=>PySem.call f vs):=by
 refine Gc hn hdf fun w s₀ s₁ mg mb fa o pm cd doc a vs ns G Y hmg hobj hints hlen hbits hg=>?_
 have KX:=hY w _ Y
 obtain⟨fd,hb,hF⟩:=F w mg fa _ KX G.T.g hmg
 exact Zn3 KX G.T.g G.T.b G.T.builtins G.T.nolimit hg hobj hints (Nat.le_trans hlen hn2) hr hF hb (fun H hO hS=>hsp w H a ns hlen hbits hO hS) fun H e s'=>hCX w H s₁ e s'
end L3
namespace L3
open PySem
section
variable{P:Program}{w:World}{A:Around}{R:Result→Shared→Prop}{s:Shared}{elt tg iter c:Expr}{scope:Scope}{pos:Pos}{it acc:Value}{env:Env}
abbrev noE:Value→Shared→Prop:=fun _ _=>False
theorem Z30(I:Nat→Shared→Prop)
  (turn:∀n s,I n s→wpAny (model P w) A (pyNext it) (fun r s1=>match r with
   | none=>R (.ok .next) s1
   | some v=>wpAny (model P w) A (letOwnedTupleGo tg it v) (fun _ s2=>wpAny (model P w) A (assign tg env v) (fun _ s3=>wpAny (model P w) A (eval elt env) (fun x s4=>
     wpAny (model P w) A (call (.builtin "list.append") [acc,x]) (fun _ s5=>∃m,m<n∧I m s5) noE s4) noE s3) noE s2) noE s1) noE s)
  (n:Nat) (h:I n s):codeAny (model P w) A (.compLoop (.ListComp elt [⟨tg,iter,[],0⟩] scope pos) 0 it acc env) R s:=by
 refine codeAny_loop rfl I (fun m z hI=>?_) n h
 show wpAny _ A ((compTurn (.ListComp elt [⟨tg,iter,[],0⟩] scope pos) 0 it acc env).onRaise fun x=>do noteFrame x env;theTreesLotGoes x) _ _ z
 refine wpAny_noted ?_
 rw[compTurn_list1]
 refine Aa (Kh (Aa (Dv (turn m z hI) (fun r s1 h1=>?_) fun _ _ f=>f.elim)))
 cases r with
 | none=>exact Ag h1
 | some v=>
  refine Aa (Dv h1 (fun _ s2 h2=>?_) fun _ _ f=>f.elim)
  refine Aa (Dv h2 (fun _ s3 h3=>?_) fun _ _ f=>f.elim)
  refine Aa (Aa (Dv h3 (fun x s4 h4=>?_) fun _ _ f=>f.elim))
  exact Aa (Dv h4 (fun _ s5 h5=>Ag (Ag ⟨rfl,h5⟩)) fun _ _ f=>f.elim)
theorem Z01(I:Nat→Shared→Prop)
  (turn:∀n s,I n s→wpAny (model P w) A (pyNext it) (fun r s1=>match r with
   | none=>R (.ok .next) s1
   | some v=>wpAny (model P w) A (letOwnedTupleGo tg it v) (fun _ s2=>wpAny (model P w) A (assign tg env v) (fun _ s3=>wpAny (model P w) A (isTrue c env (eval c env)) (fun ok s4=>
     if ok=true then wpAny (model P w) A (eval elt env) (fun x s5=>wpAny (model P w) A (call (.builtin "list.append") [acc,x]) (fun _ s6=>∃m,m<n∧I m s6) noE s5) noE s4
     else ∃m,m<n∧I m s4) noE s3) noE s2) noE s1) noE s)
  (n:Nat) (h:I n s):codeAny (model P w) A (.compLoop (.ListComp elt [⟨tg,iter,[c],0⟩] scope pos) 0 it acc env) R s:=by
 refine codeAny_loop rfl I (fun m z hI=>?_) n h
 show wpAny _ A ((compTurn (.ListComp elt [⟨tg,iter,[c],0⟩] scope pos) 0 it acc env).onRaise fun x=>do noteFrame x env;theTreesLotGoes x) _ _ z
 refine wpAny_noted ?_
 rw[compTurn_list]
 refine Aa (Kh (Aa (Dv (turn m z hI) (fun r s1 h1=>?_) fun _ _ f=>f.elim)))
 cases r with
 | none=>exact Ag h1
 | some v=>
  refine Aa (Dv h1 (fun _ s2 h2=>?_) fun _ _ f=>f.elim)
  refine Aa (Dv h2 (fun _ s3 h3=>?_) fun _ _ f=>f.elim)
  refine Aa (wpAny_tests_one (Dv h3 (fun ok s4 h4=>?_) fun _ _ f=>f.elim))
  cases ok with
  | false=>exact Ag ⟨rfl,h4⟩
  | true=>
   refine Aa (Aa (Dv h4 (fun x s5 h5=>?_) fun _ _ f=>f.elim))
   exact Aa (Dv h5 (fun _ s6 h6=>Ag (Ag ⟨rfl,h6⟩)) fun _ _ f=>f.elim)
end
theorem R9:∀(names:List (Str×NameKind)) (acc:List (Str×Addr)),(∀n,(n,Dj)∈names→∃c,env.cells.lookup n=some c)→
  (∀x c,acc.lookup x=some c→env.cells.lookup x=some c)→
  ∃cl,(forIn names acc fun(x:Str×NameKind) (cs:List (Str×Addr))=>match x with
   |(name,kind)=>if (kind==Dj)=true then do let c ←cellOf env name;pure (ForInStep.yield ((name,c)::cs)) else pure (ForInStep.yield cs):Sem (List (Str×Addr)))=pure cl∧
   (∀x c,cl.lookup x=some c→env.cells.lookup x=some c)∧(∀n,(n,Dj)∈names→∃c,cl.lookup n=some c)∧∀x c,acc.lookup x=some c→∃c',cl.lookup x=some c'
 | [],acc,_,ha=>⟨acc,rfl,ha,(fun _ h=>nomatch h),fun x c e=>⟨c,e⟩⟩
 |(n,k)::r,acc,hn,ha=>by
  by_cases hk:k= .free
  ·subst hk
   obtain⟨c,hc⟩:=hn n He
   obtain⟨cl,e,h1,h2,h3⟩:=R9 r ((n,c)::acc) (fun m hm=>hn m (Dr _ hm)) (fun x d hx=>by
    rw[Go] at hx
    cases q:x==n with
    | true=>rw[q] at hx;cases hx;rw[Iy q];exact hc
    | false=>rw[q] at hx;exact ha x d hx)
   refine⟨cl,?_,h1,fun m hm=>?_,fun x d hx=>?_⟩
   ·rw[Ld]
    show(bind (bind (cellOf env n) _) _:Sem _)=_
    unfold cellOf
    rw[hc]
    exact e
   ·rcases Aw.mp hm with q | q
    ·cases q;exact h3 n c (by simp[Go])
    ·exact h2 m q
   ·cases q:x==n with
    | true=>exact h3 x c (by rw[Go,q])
    | false=>exact h3 x d (by rw[Go,q];exact hx)
  ·have hb:(k==Dj)=false:=by simpa using hk
   obtain⟨cl,e,h1,h2,h3⟩:=R9 r acc (fun m hm=>hn m (Dr _ hm)) ha
   refine⟨cl,?_,h1,fun m hm=>?_,h3⟩
   ·rw[Ld]
    show(bind (if (k==Dj)=true then _ else _) _:Sem _)=_
    rw[hb]
    exact e
   ·rcases Aw.mp hm with q | q
    ·cases q;exact absurd rfl hk
    ·exact h2 m q
theorem Ta(hn:∀n,(n,Dj)∈scope.names→∃c,env.cells.lookup n=some c):
  ∃cl,closureFor scope env=pure cl∧(∀x c,cl.lookup x=some c→env.cells.lookup x=some c)∧∀n,(n,Dj)∈scope.names→∃c,cl.lookup n=some c:=by
 obtain⟨cl,e,h1,h2,_⟩:=R9 scope.names [] hn (fun x c h=>by cases h)
 refine⟨cl,?_,h1,h2⟩
 exact(congrArg (fun t:Sem (List (Str×Addr))=>bind t fun z=>pure z) e).trans rfl
end L3
namespace L3
open PySem PySem.Spec PyProof.Rows L2
noncomputable def cxC(X:Cx)(N':List Str)(scope:Scope)(cl:List (Str×Addr))(C:Addr)(fp:List Addr)(pins:List (Addr×Obj))(s:Shared)(H:Hp):Cx where
 prog:=X.prog
 w:=X.w
 K:=X.K
 mg:=X.mg
 base:=X.base
 A:=X.A
 N:=N'
 s₀:=s
 H₀:=H
 env:=compEnvC scope cl C X.env
 outer:=X.stack
 stack:=X.stack
 ex:=fp
 fn:=fun x=>scope.names.any fun y=>y.1==x&&y.2== .cell
 calm:=X.calm
 pn:=X.pn++pins
 xe:=noE
noncomputable def Vb(scope dsc:Scope):Scope:=
 {scope with names:=scope.names.map fun(n,k)=>if (k== .free&&dsc.kind== .function&&dsc.names.lookup n==some .cell) then(n,.cell) else(n,k)}
noncomputable def Sw(js:List (Option Nat))(σ:L2.St):L2.St:=js.map fun o=>o.bind fun j=>(σ[j]?).join
structure CompScope(dsc:Scope)(dN N':List Str)(js:List (Option Nat))(scope:Scope):Prop where
 kind:scope.kind= .function
 nd:(scope.names.map (·.1)).Nodup
 loc:∀y∈scope.names,y.2= .local→scope.names.lookup y.1=some .local
 len:js.length=N'.length
 cap:∀(i:Nat) (x:Str) (j:Nat),N'[i]?=some x→js[i]?=some (some j)→dN[j]?=some x∧(x,Dj)∈scope.names
 free:∀n,(n,Dj)∈scope.names→dsc.names.lookup n=some .cell∨dsc.names.lookup n=some .free
 seen:∀n,(n,Dj)∈scope.names→(Vb scope dsc).names.lookup n=some .cell∨(Vb scope dsc).names.lookup n=some .free
noncomputable def S7(dsc:Scope)(dN N':List Str)(js:List (Option Nat))(scope:Scope):Bool:=
 scope.kind== .function&&decide ((scope.names.map (·.1)).Nodup)&&scope.names.all (fun y=>y.2 != .local || scope.names.lookup y.1==some .local)&&js.length==N'.length&&
 (N'.zip js).all (fun p=>match p.2 with | some j=>dN[j]?==some p.1&&scope.names.contains (p.1,Dj) | none=>true)&&
 scope.names.all (fun y=>y.2 != .free || ((dsc.names.lookup y.1==some .cell || dsc.names.lookup y.1==some .free)&&((Vb scope dsc).names.lookup y.1==some .cell || (Vb scope dsc).names.lookup y.1==some .free)))
theorem CompScope.of(h:S7 dsc dN N' js scope=true):CompScope dsc dN N' js scope:=by
 unfold S7 at h
 simp only[Bool.and_eq_true,Hy,beq_iff_eq,bne_iff_ne,Bool.or_eq_true,decide_eq_true_eq] at h
 obtain⟨⟨⟨⟨⟨h1,h2⟩,h3⟩,h4⟩,h5⟩,h6⟩:=h
 refine⟨h1,h2,fun y hy hl=>(h3 y hy).resolve_left fun z=>z hl,h4,fun i x j e1 e2=>?_,fun n hn=>?_,fun n hn=>?_⟩
 ·have hm:(x,some j)∈N'.zip js:=Hb (i:=i) (by rw[List.getElem?_zip_eq_some];exact⟨e1,e2⟩)
  have q:=h5 _ hm
  simp only[Bool.and_eq_true,beq_iff_eq,Dz] at q
  exact q
 ·exact((h6 _ hn).resolve_left fun z=>z rfl).1
 ·exact((h6 _ hn).resolve_left fun z=>z rfl).2
theorem S5{env:Env}{x:Str}{k:NameKind}:∀{names:List (Str×NameKind)},
  (names.map fun(n,k)=>if (k==Dj&&env.scope.kind== .function&&env.kindOf n==some .cell) then(n,Hg) else(n,k)).lookup x=some k→(k= .cell∨k= .free)→(x,Dj)∈names∨(x,Hg)∈names
 | [],h,_=>by simp at h
 |(n,q)::r,h,hk=>by
  rw[Dd] at h
  by_cases hx:x=n
  ·subst hx
   have hq:q= .free∨q= .cell:=by
    by_cases c:(q==Dj&&env.scope.kind== .function&&env.kindOf x==some .cell)=true
    ·rw[Bool.and_eq_true,Bool.and_eq_true] at c
     exact .inl (Iy c.1.1)
    ·simp only[if_neg c] at h
     rw[Go,beq_self_eq_true] at h
     have e:q=k:=Dw h
     rcases hk with z | z
     ·exact .inr (e.trans z)
     ·exact .inl (e.trans z)
   rcases hq with rfl | rfl
   ·exact .inl He
   ·exact .inr He
  ·have hb:(x==n)=false:=by simpa using hx
   have rest:(r.map fun(n,k)=>if (k==Dj&&env.scope.kind== .function&&env.kindOf n==some .cell) then(n,Hg) else(n,k)).lookup x=some k:=by
    by_cases c:(q==Dj&&env.scope.kind== .function&&env.kindOf n==some .cell)=true
    ·simp only[if_pos c] at h
     rw[Go,hb] at h
     exact h
    ·simp only[if_neg c] at h
     rw[Go,hb] at h
     exact h
   exact(S5 (env:=env) rest hk).imp (Dr _) (Dr _)
structure BlockCells(X:Cx)(scope:Scope)(cl:List (Str×Addr))(sz:Nat)(h1:Heap):Prop where
 each:∀x c,cl.lookup x=some c→X.env.cells.lookup x=some c∨(sz<c∧h1.IsCell c none)
 free:∀n,(n,Dj)∈scope.names→∃c,cl.lookup n=some c∧X.env.cells.lookup n=some c
 own:∀n,(n,Hg)∈scope.names→∃c,cl.lookup n=some c∧sz<c
 inj:∀x y c,cl.lookup x=some c→cl.lookup y=some c→sz<c→x=y
theorem Si{x:Str}:∀(names:List (Str×NameKind)) (n:Nat) (acc:List (Str×Addr)),(x,Hg)∉names→(cellsFrom n names acc).lookup x=acc.lookup x
 | [],_,_,_=>rfl
 |(y,k)::r,n,acc,h=>by
  have hr:(x,Hg)∉r:=fun z=>h (Dr _ z)
  unfold cellsFrom
  split
  ·rename_i hk
   have hxy:(x==y)=false:=by
    rw[beq_eq_false_iff_ne]
    intro e
    apply h
    rw[e,←Iy hk]
    exact He
   rw[Si r _ _ hr,Go,hxy]
  ·exact Si r n acc hr
theorem Qq{x:Str}:∀(names:List (Str×NameKind)) (n:Nat) (acc:List (Str×Addr)),(x,Hg)∈names→∃c,(cellsFrom n names acc).lookup x=some c∧n≤c
 | [],_,_,h=>by cases h
 |(y,k)::r,n,acc,h=>by
  unfold cellsFrom
  by_cases hr:(x,Hg)∈r
  ·split
   ·obtain⟨c,e,l⟩:=Qq r (n+1) ((y,n)::acc) hr
    exact⟨c,e,by omega⟩
   ·exact Qq r n acc hr
  ·rcases Aw.mp h with e | e
   ·cases e
    rw[if_pos (by rfl),Si r _ _ hr,Go,beq_self_eq_true]
    exact⟨n,rfl,Nat.le_refl _⟩
   ·exact absurd e hr
theorem Tv:∀(names:List (Str×NameKind)) (n:Nat) (acc cl:List (Str×Addr)),∃own,cellsFrom n names (acc++cl)=own++cl∧cellsFrom n names acc=own
 | [],n,acc,cl=>⟨acc,rfl,rfl⟩
 |(y,k)::r,n,acc,cl=>by
  unfold cellsFrom
  split
  ·exact Tv r (n+1) ((y,n)::acc) cl
  ·exact Tv r n acc cl
theorem T8{x:Str}:∀{a b:List (Str×Addr)},(a++b).lookup x=some c→a.lookup x=some c∨b.lookup x=some c
 | [],b,h=> .inr h
 |(y,d)::a,b,h=>by
  rw[Hl,Go] at h
  rw[Go]
  cases e:x==y with
  | true=>rw[e] at h;exact .inl h
  | false=>rw[e] at h;exact T8 h
theorem Ow{s:Shared}(nd:(scope.names.map (·.1)).Nodup)(I:Inv X pins σ H s)(o:Obj)
  (c1:∀x c,cl.lookup x=some c→X.env.cells.lookup x=some c) (c2:∀n,(n,Dj)∈scope.names→∃c,cl.lookup n=some c):
  BlockCells X scope (cellsFrom (s.heap.objs.size+1) scope.names cl) s.heap.objs.size (pushCells (s.heap.push o) scope.names):=by
 obtain⟨own,e1,e2⟩:=Tv scope.names (s.heap.objs.size+1) [] cl
 rw[Hj] at e1
 have ok:=cellsFrom_ok scope.names (s.heap.push o) (s.heap.objs.size+1) [] ⟨fun _ _ hm=>(nomatch hm),List.Pairwise.nil⟩ (by rw[Ia];exact Nat.le_refl _)
 rw[Ia,e2] at ok
 have old:∀x c,cl.lookup x=some c→c<s.heap.objs.size:=by
  intro x c e
  obtain⟨v,q⟩:=I.cell x c (c1 x c e)
  exact q.lt
 have one:∀{n:Str},(n,Dj)∈scope.names→(n,Hg)∉scope.names:=by
  intro n h1 h2
  have key:∀(l:List (Str×NameKind)),(l.map (·.1)).Nodup→(n,Dj)∈l→(n,Hg)∈l→False:=by
   intro l
   induction l with
   | nil=>intro _ h;cases h
   | cons y r ih=>
    intro hn a b
    rw[Dd,Ll] at hn
    rcases Aw.mp a with e1 | a2
    ·rcases Aw.mp b with e2 | b2
     ·rw[←e1] at e2;cases e2
     ·exact hn.1 (List.mem_map.mpr ⟨_,b2,by rw[←e1]⟩)
    ·rcases Aw.mp b with e2 | b2
     ·exact hn.1 (List.mem_map.mpr ⟨_,a2,by rw[←e2]⟩)
     ·exact ih hn.2 a2 b2
  exact key _ nd h1 h2
 refine⟨fun x c e=>?_,fun n hn=>?_,fun n hn=>?_,fun x y c hx hy hc=>?_⟩
 ·rw[e1] at e
  rcases T8 e with z | z
  ·obtain⟨a,b⟩:=ok.empty x c (mem_of_lookup z)
   exact .inr ⟨b,a⟩
  ·exact .inl (c1 x c z)
 ·obtain⟨c,hc⟩:=c2 n hn
  refine⟨c,?_,c1 n c hc⟩
  rw[Si _ _ _ (one hn)]
  exact hc
 ·obtain⟨c,a,b⟩:=Qq scope.names (s.heap.objs.size+1) cl hn
  exact⟨c,a,b⟩
 ·rw[e1] at hx hy
  rcases T8 hx with z | z
  ·rcases T8 hy with z2 | z2
   ·exact name_of_addr ok.apart (mem_of_lookup z) (mem_of_lookup z2)
   ·exact absurd (old y c z2) (Nat.lt_asymm hc)
  ·exact absurd (old x c z) (Nat.lt_asymm hc)
theorem O2{M:Model}{A:Around}{E:Value→Shared→Prop}{s:Shared}{scope:Scope}{globals:Addr}{cl:List (Str×Addr)}{qual:Str}{o:Env}{Q:Env→Shared→Prop}
  (hQ:Q {scope:=scope,locals:=s.heap.objs.size,globals:=globals,cells:=cellsFrom (s.heap.objs.size+1) scope.names cl,qual:=qual,func:=none,code:=o.code,frame:=o.frame,builtins:=o.builtins} {s with heap:=pushCells (s.heap.push {cls:= .type "dict",data:= .dict #[]}) scope.names}):
  wpAny M A (newFunctionEnv scope globals cl [] qual none .none (some o)) Q E s:=by
 simp only[newFunctionEnv,Option.isSome_some,if_true]
 refine Aa (wpAny_alloc ?_)
 refine Aa (wpAny_layCells _ (fun name kind cells=>by cases hkc:kind==Hg<;>simp[hkc]) _ _ _ _ ?_)
 rw[show({s with heap:=s.heap.push {cls:= .type "dict",data:= .dict #[]}}:Shared).heap.objs.size=s.heap.objs.size+1 from Ia ..]
 rw[List.forIn_nil]
 exact Aa (Ag (Ag hQ))
section
variable{X:Cx}{elt tg iter c:Expr}{scope:Scope}{pos:Pos}{N':List Str}{js:List (Option Nat)}{wi:TI}{g:TG}{te:TE}{tc:TT}
theorem O9{N':List Str}{js:List (Option Nat)}{pins:List (Addr×Obj)}{σ:L2.St}{H:Hp}{s:Shared}{cl:List (Str×Addr)}{fp:List Addr}{h1:Heap}{tk:Nat}(S:CompScope X.env.scope X.N N' js scope)(I:Inv X pins σ H s)
  (bc:BlockCells X scope cl s.heap.objs.size h1) (hf:∀b∈fp,FpOk X pins H b) (hlt:∀b∈fp,b<s.heap.objs.size)
  {m:Str→Option Value} (hn:h1.Ns s.heap.objs.size m) (hk:∀b o,s.heap.get? b=some o→h1.get? b=some o):
  Inv (cxC X N' scope cl s.heap.objs.size fp pins s H) [] (Sw js σ) H {s with heap:=h1,toks:=tk}:=by
 have ok:(cxC X N' scope cl s.heap.objs.size fp pins s H).Ok:=by
  refine⟨I.ok.mod,S.kind,I.ok.glob,I.ok.blt,Nat.le_refl _,fun x y c h1 h2=>?_,fun x hx=>?_,fun x c hx e=>?_,I.ok.hd,I.ok.frames,.inl rfl,fun b hb=>⟨Nat.ne_of_lt (hlt b hb),fun x c e=>?_⟩,
   I.bs,Nat.le_trans I.ok.bsz I.sz,fun b o e hb=>?_,fun b hb hx=>?_,I.stack,I.stkFree⟩
  ·rcases bc.each x c h1 with z | z
   ·rcases bc.each y c h2 with z2 | z2
    ·exact I.ok.inj x y c z z2
    ·exact bc.inj x y c h1 h2 z2.1
   ·exact bc.inj x y c h1 h2 z.1
  ·have hx':(relabel scope X.env).names.lookup x=some .cell∨(relabel scope X.env).names.lookup x=some .free:=hx
   have hm:(x,Dj)∈scope.names∨(x,Hg)∈scope.names:=by
    rcases hx' with z | z
    ·exact S5 z (.inl rfl)
    ·exact S5 z (.inr rfl)
   rcases hm with z | z
   ·obtain⟨c,e,_⟩:=bc.free x z;exact⟨c,e⟩
   ·obtain⟨c,e,_⟩:=bc.own x z;exact⟨c,e⟩
  ·have hx':(scope.names.any fun y=>y.1==x&&y.2==Hg)=true:=hx
   rw[Iv] at hx'
   obtain⟨⟨y,k⟩,hm,hy⟩:=hx'
   rw[Bool.and_eq_true] at hy
   have e1:y=x:=Iy hy.1
   have e2:k= .cell:=Iy hy.2
   subst e1 e2
   obtain⟨c',e',l⟩:=bc.own _ hm
   have:c'=c:=Dw (e'.symm.trans e)
   subst this
   exact Nat.le_of_lt l
  ·rcases bc.each x c e with z | z
   ·exact(hf b hb).2.2.2.2.1 x c z
   ·exact fun q=>absurd z.1 (Nat.lt_asymm (by rw[q];exact hlt b hb))
  ·obtain⟨_,_,_,f3,_⟩:=hf b hb
   rcases f3 with z | z
   ·exact I.ok.noex b o e z
   ·exact absurd (Nat.lt_of_lt_of_le (Aj e) (Nat.le_trans I.ok.bsz z)) (Nat.lt_irrefl _)
  ·obtain⟨_,f1,f2,_⟩:=hf b hb
   rcases Aw.mp (I.stkSub b hx) with z | z
   ·exact f1 z
   ·exact f2 z
 refine⟨ok,rfl,I.bare,Un.kept hk,⟨m,hn,fun i x v e1 e2 e3=>?_⟩,fun x c e=>?_,I.hok.fresh (Nat.le_refl _),fun x c e=>(bc.each x c e).elim (fun z=>I.freeC x c z) (fun z=>I.hok.fresh (Nat.le_of_lt z.1)),fun p hp=>?_,I.hok.kept hk,?_⟩
 ·have e2':(Sw js σ)[i]?=some (some v):=e2
  unfold Sw at e2'
  rw[Ax] at e2'
  cases q:js[i]? with
  | none=>rw[q] at e2';cases e2'
  | some o=>
   rw[q] at e2'
   cases o with
   | none=>cases e2'
   | some j=>
    have e4:(σ[j]?).join=some v:=Dw e2'
    obtain⟨hN,hm⟩:=S.cap i x j e1 q
    have hσ:σ[j]?=some (some v):=by
     cases z:σ[j]? with
     | none=>rw[z] at e4;cases e4
     | some o=>rw[z] at e4;exact congrArg some e4
    obtain⟨m0,hn0,hl⟩:=I.loc
    obtain⟨c,hc,hc0⟩:=bc.free x hm
    have hv:Vis X.env.scope x:=(S.free x hm).elim (fun z=> .inr (.inl z)) fun z=> .inr (.inr z)
    obtain⟨u,r,l⟩:=hl j x v hN hσ hv
    refine⟨u,r,.inr ⟨?_,c,hc,?_⟩⟩
    ·exact S.seen x hm
    ·rcases l with⟨kl,_⟩ | ⟨_,c',hc',cell⟩
     ·rcases S.free x hm with y | y<;>(have z:=y.symm.trans (show X.env.scope.names.lookup x=some .local from kl);cases z)
     ·rw[hc0] at hc'
      cases hc'
      obtain⟨o,ho,hd⟩:=cell
      exact⟨o,hk _ _ ho,hd⟩
 ·rcases bc.each x c e with z | z
  ·obtain⟨v,o,ho,hd⟩:=I.cell x c z
   exact⟨v,o,hk _ _ ho,hd⟩
  ·exact⟨none,z.2⟩
 ·have hp':p∈X.pn++pins:=(Ho.mp hp).elim (fun z=>z) fun z=>absurd z (by simp)
  obtain⟨e,n,ne,nf,d⟩:=I.pin p hp'
  refine⟨hk _ _ e,n,Nat.ne_of_lt (Aj e),fun z=>?_,d⟩
  rcases Aw.mp (I.stkSub p.1 z) with y | y
  ·exact ne y
  ·exact nf y
 ·show(Sw js σ).length=N'.length
  unfold Sw
  rw[Ah];exact S.len
end
section
variable{X:Cx}{elt tg iter c:Expr}{scope:Scope}{pos:Pos}{N':List Str}{js:List (Option Nat)}{wi:TI}{g:TG}{te:TE}{tc:TT}
def Z72(js:List (Option Nat))(wi:TI)(g:TG)(te:TE):TE:=fun σ H Q=>wi σ H fun J H1=>∀D,H1 D=none→∃W:Nat→Nat→L2.St→Hp→Prop,(∃m,W 0 m (Sw js σ) (upd H1 D (.lst [])))∧
 ∀i m σc Hc,W i m σc Hc→(J.stop i Hc∧Q (.ref D) Hc)∨(J.go i Hc∧∀x H',J.yld i Hc x H'→g x σc H' fun σ2 H2=>te σ2 H2 fun y H4=>∃acc,H4 D=some (.lst acc)∧acc.length<sizeLine∧
  ∃m',m'<m∧W (i+1) m' σ2 (upd H4 D (.lst (acc++[y]))))
def Zs6(js:List (Option Nat))(wi:TI)(g:TG)(tc:TT)(te:TE):TE:=fun σ H Q=>wi σ H fun J H1=>∀D,H1 D=none→∃W:Nat→Nat→L2.St→Hp→Prop,(∃m,W 0 m (Sw js σ) (upd H1 D (.lst [])))∧
 ∀i m σc Hc,W i m σc Hc→(J.stop i Hc∧Q (.ref D) Hc)∨(J.go i Hc∧∀x H',J.yld i Hc x H'→g x σc H' fun σ2 H2=>tc σ2 H2 fun b H3=>if b=true then te σ2 H3 fun y H4=>∃acc,H4 D=some (.lst acc)∧acc.length<sizeLine∧
  ∃m',m'<m∧W (i+1) m' σ2 (upd H4 D (.lst (acc++[y]))) else ∃m',m'<m∧W (i+1) m' σ2 H3)
theorem Qi{pins:List (Addr×Obj)}{σ:L2.St}{H2:Hp}{s2:Shared}{cl:List (Str×Addr)}{it:Addr}{fp:List Addr}{tn:Nat→Heap→Prop}{J:It}{QD:Addr→Hp→Prop}{R:Value→Addr→Result→Shared→Prop}{E:Value→Shared→Prop}
  (hc:X.calm=true) (S:CompScope X.env.scope X.N N' js scope) (c1:∀x c,cl.lookup x=some c→X.env.cells.lookup x=some c) (c2:∀n,(n,Dj)∈scope.names→∃c,cl.lookup n=some c)
  (hg:∀cl C fp pins s H,PG (cxC X N' scope cl C fp pins s H) tg g) (he:∀cl C fp pins s H,PE (cxC X N' scope cl C fp pins s H) elt te)
  (I2:Inv X pins σ H2 s2) (T:Turn X.prog X.w X.K tg J fp it tn) (st2:tn 0 s2.heap) (f2:∀b∈fp,FpOk X pins H2 b)
  (q:∀D,H2 D=none→∃W:Nat→Nat→L2.St→Hp→Prop,(∃m,W 0 m (Sw js σ) (upd H2 D (.lst [])))∧
   ∀i m σc Hc,W i m σc Hc→(J.stop i Hc∧QD D Hc)∨(J.go i Hc∧∀x H',J.yld i Hc x H'→g x σc H' fun σ2 H2=>te σ2 H2 fun y H4=>∃acc,H4 D=some (.lst acc)∧acc.length<sizeLine∧
    ∃m',m'<m∧W (i+1) m' σ2 (upd H4 D (.lst (acc++[y])))))
  (back:∀(D C:Addr) (Hc:Hp) (s4:Shared),(∃m,s4.heap.Ns C m)→Inv X pins σ Hc s4→Hc C=none→C≠X.env.locals→X.s₀.heap.objs.size≤C→(∀x c,X.env.cells.lookup x=some c→c≠C)→(∀p∈X.pn++pins,p.1≠C)→QD D Hc→R (.ref D) C (.ok .next) s4):
  wpAny (model X.prog X.w) X.A (newList []) (fun acc s3=>wpAny (model X.prog X.w) X.A (newFunctionEnv scope X.env.globals cl [] X.env.qual none .none (some X.env)) (fun cenv s4=>
   codeAny (model X.prog X.w) X.A (.compStart (.ListComp elt [⟨tg,iter,[],0⟩] scope pos) 0 (.ref it) acc {cenv with scope:=relabel scope X.env}) (R acc cenv.locals) s4) E s3) E s2:=by
 refine Hw (O2 ?_)
 dsimp only
 have I3:Inv X pins σ (upd H2 s2.heap.objs.size (.lst [])) {s2 with heap:=s2.heap.push {cls:= .type "list",data:= .seq ([]:List Value).toArray}}:=I2.lnew (its:=[]) (t':=s2.toks) .nil (Nat.zero_le _)
 obtain⟨W,⟨m0,w0⟩,turn⟩:=q s2.heap.objs.size I2.fresh
 have hob:=T.obj 0 _ st2
 have f3:∀b∈fp,FpOk X pins (upd H2 s2.heap.objs.size (.lst [])) b:=fun b hb=>by
  obtain⟨o,e,_⟩:=hob b hb
  exact⟨by rw[Za (Nat.ne_of_lt (Aj e))];exact(f2 b hb).1,(f2 b hb).2⟩
 generalize hS3:(s2.heap.push {cls:= .type "list",data:= .seq ([]:List Value).toArray}:Heap)=h3 at *
 have k23:∀b o,s2.heap.get? b=some o→h3.get? b=some o:=fun b o e=>by rw[←hS3];exact Ae _ e
 have hlt:∀b∈fp,b<h3.objs.size:=fun b hb=>by
  obtain⟨o,e,_⟩:=hob b hb
  exact Aj (k23 b o e)
 have bc:=Ow S.nd I3 {cls:= .type "dict",data:= .dict #[]} c1 c2
 have hns:(pushCells (h3.push {cls:= .type "dict",data:= .dict #[]}) scope.names).Ns h3.objs.size (fun _=>none):=(Heap.Ns.new h3 (.type "dict")).keeps (pushCells_keeps _ _)
 have k31:∀b o,h3.get? b=some o→(pushCells (h3.push {cls:= .type "dict",data:= .dict #[]}) scope.names).get? b=some o:=fun b o e=>pushCells_keeps _ _ b o (Ae _ e)
 dsimp only at bc
 generalize cellsFrom (h3.objs.size+1) scope.names cl=cl' at bc ⊢
 generalize pushCells (h3.push {cls:= .type "dict",data:= .dict #[]}) scope.names=h1 at bc hns k31 ⊢
 have I4:=O9 (tk:=s2.toks) S I3 bc f3 hlt hns k31
 have st4:tn 0 h1:=T.keep 0 _ h1 st2 fun b hb o e=>k31 b o (k23 b o e)
 have nofs:∀b∈fp,b∉(cxC X N' scope cl' h3.objs.size fp pins {s2 with heap:=h3} (upd H2 s2.heap.objs.size (.lst []))).fs:=I4.ok.exfs
 have stat:∀{H':Hp},(∀b∈fp,H' b=none)→∀b∈fp,FpOk (cxC X N' scope cl' h3.objs.size fp pins {s2 with heap:=h3} (upd H2 s2.heap.objs.size (.lst []))) [] H' b:=fun{H'} hn b hb=>
  ⟨hn b hb,Nat.ne_of_lt (hlt b hb),nofs b hb,.inl hb,fun x c e=>(bc.each x c e).elim (fun z=>(f3 b hb).2.2.2.2.1 x c z) (fun z q=>absurd z.1 (Nat.lt_asymm (by rw[q];exact hlt b hb))),fun p hp=>(f3 b hb).2.2.2.2.2 p (by simpa[cxC] using hp)⟩
 have loop:codeAny (model X.prog X.w) X.A (.compLoop (.ListComp elt [⟨tg,iter,[],0⟩] scope pos) 0 (.ref it) (.ref s2.heap.objs.size) (compEnvC scope cl' h3.objs.size X.env))
   (R (.ref s2.heap.objs.size) h3.objs.size) {s2 with heap:=h1,toks:=s2.toks}:=by
  refine Z30 (fun n s'=>∃i σc Hc,Inv (cxC X N' scope cl' h3.objs.size fp pins {s2 with heap:=h3} (upd H2 s2.heap.objs.size (.lst []))) [] σc Hc s'∧tn i s'.heap∧(∀b∈fp,Hc b=none)∧W i n σc Hc) ?_ m0
   ⟨0,_,_,I4,st4,fun b hb=>(f3 b hb).1,w0⟩
  rintro n z ⟨i,σc,Hc,Iz,stz,frz,wz⟩
  rcases turn i n σc Hc wz with⟨stop,qd⟩ | ⟨go,step⟩
  ·refine thn (T.done (cxC X N' scope cl' h3.objs.size fp pins {s2 with heap:=h3} (upd H2 s2.heap.objs.size (.lst []))) rfl rfl rfl hc i [] z σc Hc noE Iz (stat frz) stz stop) fun r s4 zz43=>?_
   obtain⟨hr,I5⟩:=zz43
   subst hr
   have J5:Inv X pins σ Hc s4:=I3.call' (s':=s4) I5.os I5.base I5.hok I5.bare fun b hb=>⟨(f3 b hb).2.2.2.1,(f3 b hb).2.1,(f3 b hb).2.2.2.2.1,(f3 b hb).2.2.2.2.2⟩
   obtain⟨m,hm,_⟩:=I5.loc
   refine back _ _ Hc s4 ⟨m,hm⟩ J5 I5.free (Nat.ne_of_gt I3.lt) (Nat.le_trans I3.ok.above (Nat.le_of_lt I3.lt)) (fun x c e z=>?_) (fun p hp z=>?_) qd
   ·obtain⟨v,q⟩:=I3.cell x c e
    exact absurd q.lt (by rw[z];exact Nat.lt_irrefl _)
   ·exact absurd (Aj (I3.pin p hp).1) (by rw[z];exact Nat.lt_irrefl _)
  ·refine thn (T.item (cxC X N' scope cl' h3.objs.size fp pins {s2 with heap:=h3} (upd H2 s2.heap.objs.size (.lst []))) rfl rfl rfl hc i [] z σc Hc noE Iz (stat frz) stz go) fun r s4 zz44=>?_
   obtain⟨u,hr,h4⟩:=zz44
   subst hr
   refine thn h4 fun _ s5 zz45=>?_
   obtain⟨x,H5,I5,r5,y5,st5,fr5⟩:=zz45
   have I5':=I5.pinned (stat fr5) (T.obj _ _ st5)
   refine thn (hg _ _ _ _ _ _ _ s5 σc H5 x u _ I5' r5 (step x H5 y5)) fun _ s6 zz46=>?_
   obtain⟨σ6,H6,I6,q6⟩:=zz46
   refine thn (he _ _ _ _ _ _ _ s6 σ6 H6 _ I6 q6) fun v s7 zz47=>?_
   obtain⟨y,H7,I7,r7,acc,hD,hlen,m',hm,w7⟩:=zz47
   refine thn (Qr _ s7 σ6 H7 (.ref s2.heap.objs.size) [y] (.ref s2.heap.objs.size) [v] (fun _ H8=>H8=upd H7 s2.heap.objs.size (.lst (acc++[y]))) I7 rfl (.cons r7 .nil) ⟨_,acc,y,rfl,rfl,hD,hlen,rfl⟩) fun _ s8 zz48=>?_
   obtain⟨_,H8,I8,_,e8⟩:=zz48
   subst e8
   refine⟨m',hm,i+1,σ6,_,I8.unpinned,T.keep _ _ _ st5 fun b hb o e=>(I8.pin (b,o) (Ay _ (Ay _ (Xf hb e)))).1,fun b hb=>?_,w7⟩
   obtain⟨o,e,d⟩:=T.obj _ _ st5 b hb
   exact(I8.pin (b,o) (Ay _ (Ay _ (Xf hb e)))).2.1
 exact codeAny_compStart_list loop (T.self _ 0 _ _ _ st4 loop)
theorem Zf9(hc:X.calm=true)(ho:S7 X.env.scope X.N N' js scope=true)(hi:PI X tg iter wi)(hg:∀cl C fp pins s H,PG (cxC X N' scope cl C fp pins s H) tg g)(he:∀cl C fp pins s H,PE (cxC X N' scope cl C fp pins s H) elt te)
  (hs:∀x,foldedSetIterable iter X.env x=pure x:=by intro _;rfl):PE X (.ListComp elt [⟨tg,iter,[],0⟩] scope pos) (Z72 js wi g te):=by
 intro pins s σ H Q I h
 have S:=CompScope.of ho
 obtain⟨cl,hcl,c1,c2⟩:=Ta (scope:=scope) (env:=X.env) fun n hn=>I.ok.has n (S.free n hn)
 rw[eval_ListComp]
 refine Kr (use:=none) rfl hs hcl S.kind S.loc (thn (hi pins s σ H _ I h) fun v s1 h1=>thn h1 fun itv s2 h2=>?_)
 obtain⟨it,fp,tn,J,H2,e,I2,T,st2,f2,q2⟩:=h2
 subst e
 refine Qi (QD:=fun D Hc=>Q (.ref D) Hc) (R:=fun acc C=>compPost (model X.prog X.w) X.A X.xe none (EP X pins σ Q) acc C) hc S c1 c2 hg he I2 T st2 f2 q2 ?_
 rintro D C Hc s4 ⟨m,hm⟩ J4 fC nL sC cC pC qd
 refine⟨m,hm,fun h' hs'=>⟨.ref D,Hc,?_,rfl,qd⟩⟩
 exact J4.turned (t':=s4.toks) (fun b o hb e=>(hs'.2 b hb).trans e) fC nL (.inr sC) cC pC
def Y88(i:Nat)(js:List (Option Nat))(wi:TI)(g:TG)(te:TE):TS:=fun D σ H=>Z72 js wi g te σ H fun v H1=>D.nx (σ.set i (some v)) H1
theorem Zo5{i:Nat}{x:Str}(hc:X.calm=true)(ho:S7 X.env.scope X.N N' js scope=true)(hN:X.N.Nodup)(hx:X.N[i]?=some x)(hl:X.env.scope.names.lookup x=some .local)(hi:PI X tg iter wi)
  (hg:∀cl C fp pins s H,PG (cxC X N' scope cl C fp pins s H) tg g) (he:∀cl C fp pins s H,PE (cxC X N' scope cl C fp pins s H) elt te)
  (hsw:swapsWith (.ListComp elt [⟨tg,iter,[],0⟩] scope pos) (some (.Name x px)) spos.line X.env=pure true)
  (hs:∀x,foldedSetIterable iter X.env x=pure x:=by intro _;rfl):PS X (.Assign [.Name x px] (.ListComp elt [⟨tg,iter,[],0⟩] scope pos) spos) (Y88 i js wi g te):=by
 intro pins s σ H D I h
 have S:=CompScope.of ho
 obtain⟨cl,hcl,c1,c2⟩:=Ta (scope:=scope) (env:=X.env) fun n hn=>I.ok.has n (S.free n hn)
 rw[exec_Assign_Name_used _ _ _ _ hsw]
 refine Aa (Kh (Aa ?_))
 show wpAny _ _ (do let _ ←comprehension (.ListComp elt [⟨tg,iter,[],0⟩] scope pos) scope X.env _ (newList []) false (eval iter X.env) (some (assign (.Name x px) X.env))) _ _ s
 refine Aa (Dv (Kr (use:=some (assign (.Name x px) X.env)) (Q:=fun _ s'=>SP X pins D .next s') rfl hs hcl S.kind S.loc (thn (hi pins s σ H _ I h) fun v s1 h1=>thn h1 fun itv s2 h2=>?_)) (fun _ s' hq=>Ag (Ag hq)) fun _ _ e=>e)
 obtain⟨it,fp,tn,J,H2,e,I2,T,st2,f2,q2⟩:=h2
 subst e
 refine Qi (QD:=fun E' Hc=>D.nx (σ.set i (some (.ref E'))) Hc) (R:=fun acc C=>compPost (model X.prog X.w) X.A X.xe (some (assign (.Name x px) X.env)) (fun _ s'=>SP X pins D .next s') acc C) hc S c1 c2 hg he I2 T st2 f2 q2 ?_
 rintro E' C Hc s4 ⟨m,hm⟩ J4 fC nL sC cC pC qd
 show wpAny _ _ (assign (.Name x px) X.env (.ref E')) _ _ s4
 refine wpAny_assign_Name (Qv J4 hN hx (.inl hl) (v:= .ref E') rfl (fun s5 J5 zz49=>?_) (.inr hl))
 obtain⟨a,sb,ha⟩:=zz49
 have hCa:C≠a:=by
  rcases ha with z | z
  ·rw[z];exact nL
  ·exact(cC x a z).symm
 refine⟨m,hm.sameBut sb hCa,fun h' hs'=>⟨σ.set i (some (.ref E')),Hc,?_,qd⟩⟩
 exact J5.turned (t':=s5.toks) (fun b o hb e=>(hs'.2 b hb).trans e) fC nL (.inr sC) cC pC
theorem Qg{pins:List (Addr×Obj)}{σ:L2.St}{H2:Hp}{s2:Shared}{cl:List (Str×Addr)}{it:Addr}{fp:List Addr}{tn:Nat→Heap→Prop}{J:It}{QD:Addr→Hp→Prop}{R:Value→Addr→Result→Shared→Prop}{E:Value→Shared→Prop}
  (hc:X.calm=true) (S:CompScope X.env.scope X.N N' js scope) (c1:∀x c,cl.lookup x=some c→X.env.cells.lookup x=some c) (c2:∀n,(n,Dj)∈scope.names→∃c,cl.lookup n=some c)
  (hg:∀cl C fp pins s H,PG (cxC X N' scope cl C fp pins s H) tg g) (hq:∀cl C fp pins s H,PT (cxC X N' scope cl C fp pins s H) c tc) (he:∀cl C fp pins s H,PE (cxC X N' scope cl C fp pins s H) elt te)
  (I2:Inv X pins σ H2 s2) (T:Turn X.prog X.w X.K tg J fp it tn) (st2:tn 0 s2.heap) (f2:∀b∈fp,FpOk X pins H2 b)
  (q:∀D,H2 D=none→∃W:Nat→Nat→L2.St→Hp→Prop,(∃m,W 0 m (Sw js σ) (upd H2 D (.lst [])))∧
   ∀i m σc Hc,W i m σc Hc→(J.stop i Hc∧QD D Hc)∨(J.go i Hc∧∀x H',J.yld i Hc x H'→g x σc H' fun σ2 H2=>tc σ2 H2 fun b H3=>if b=true then te σ2 H3 fun y H4=>∃acc,H4 D=some (.lst acc)∧acc.length<sizeLine∧
    ∃m',m'<m∧W (i+1) m' σ2 (upd H4 D (.lst (acc++[y]))) else ∃m',m'<m∧W (i+1) m' σ2 H3))
  (back:∀(D C:Addr) (Hc:Hp) (s4:Shared),(∃m,s4.heap.Ns C m)→Inv X pins σ Hc s4→Hc C=none→C≠X.env.locals→X.s₀.heap.objs.size≤C→(∀x c,X.env.cells.lookup x=some c→c≠C)→(∀p∈X.pn++pins,p.1≠C)→QD D Hc→R (.ref D) C (.ok .next) s4):
  wpAny (model X.prog X.w) X.A (newList []) (fun acc s3=>wpAny (model X.prog X.w) X.A (newFunctionEnv scope X.env.globals cl [] X.env.qual none .none (some X.env)) (fun cenv s4=>
   codeAny (model X.prog X.w) X.A (.compStart (.ListComp elt [⟨tg,iter,[c],0⟩] scope pos) 0 (.ref it) acc {cenv with scope:=relabel scope X.env}) (R acc cenv.locals) s4) E s3) E s2:=by
 refine Hw (O2 ?_)
 dsimp only
 have I3:Inv X pins σ (upd H2 s2.heap.objs.size (.lst [])) {s2 with heap:=s2.heap.push {cls:= .type "list",data:= .seq ([]:List Value).toArray}}:=I2.lnew (its:=[]) (t':=s2.toks) .nil (Nat.zero_le _)
 obtain⟨W,⟨m0,w0⟩,turn⟩:=q s2.heap.objs.size I2.fresh
 have hob:=T.obj 0 _ st2
 have f3:∀b∈fp,FpOk X pins (upd H2 s2.heap.objs.size (.lst [])) b:=fun b hb=>by
  obtain⟨o,e,_⟩:=hob b hb
  exact⟨by rw[Za (Nat.ne_of_lt (Aj e))];exact(f2 b hb).1,(f2 b hb).2⟩
 generalize hS3:(s2.heap.push {cls:= .type "list",data:= .seq ([]:List Value).toArray}:Heap)=h3 at *
 have k23:∀b o,s2.heap.get? b=some o→h3.get? b=some o:=fun b o e=>by rw[←hS3];exact Ae _ e
 have hlt:∀b∈fp,b<h3.objs.size:=fun b hb=>by
  obtain⟨o,e,_⟩:=hob b hb
  exact Aj (k23 b o e)
 have bc:=Ow S.nd I3 {cls:= .type "dict",data:= .dict #[]} c1 c2
 have hns:(pushCells (h3.push {cls:= .type "dict",data:= .dict #[]}) scope.names).Ns h3.objs.size (fun _=>none):=(Heap.Ns.new h3 (.type "dict")).keeps (pushCells_keeps _ _)
 have k31:∀b o,h3.get? b=some o→(pushCells (h3.push {cls:= .type "dict",data:= .dict #[]}) scope.names).get? b=some o:=fun b o e=>pushCells_keeps _ _ b o (Ae _ e)
 dsimp only at bc
 generalize cellsFrom (h3.objs.size+1) scope.names cl=cl' at bc ⊢
 generalize pushCells (h3.push {cls:= .type "dict",data:= .dict #[]}) scope.names=h1 at bc hns k31 ⊢
 have I4:=O9 (tk:=s2.toks) S I3 bc f3 hlt hns k31
 have st4:tn 0 h1:=T.keep 0 _ h1 st2 fun b hb o e=>k31 b o (k23 b o e)
 have nofs:∀b∈fp,b∉(cxC X N' scope cl' h3.objs.size fp pins {s2 with heap:=h3} (upd H2 s2.heap.objs.size (.lst []))).fs:=I4.ok.exfs
 have stat:∀{H':Hp},(∀b∈fp,H' b=none)→∀b∈fp,FpOk (cxC X N' scope cl' h3.objs.size fp pins {s2 with heap:=h3} (upd H2 s2.heap.objs.size (.lst []))) [] H' b:=fun{H'} hn b hb=>
  ⟨hn b hb,Nat.ne_of_lt (hlt b hb),nofs b hb,.inl hb,fun x c e=>(bc.each x c e).elim (fun z=>(f3 b hb).2.2.2.2.1 x c z) (fun z q=>absurd z.1 (Nat.lt_asymm (by rw[q];exact hlt b hb))),fun p hp=>(f3 b hb).2.2.2.2.2 p (by simpa[cxC] using hp)⟩
 have loop:codeAny (model X.prog X.w) X.A (.compLoop (.ListComp elt [⟨tg,iter,[c],0⟩] scope pos) 0 (.ref it) (.ref s2.heap.objs.size) (compEnvC scope cl' h3.objs.size X.env))
   (R (.ref s2.heap.objs.size) h3.objs.size) {s2 with heap:=h1,toks:=s2.toks}:=by
  refine Z01 (fun n s'=>∃i σc Hc,Inv (cxC X N' scope cl' h3.objs.size fp pins {s2 with heap:=h3} (upd H2 s2.heap.objs.size (.lst []))) [] σc Hc s'∧tn i s'.heap∧(∀b∈fp,Hc b=none)∧W i n σc Hc) ?_ m0
   ⟨0,_,_,I4,st4,fun b hb=>(f3 b hb).1,w0⟩
  rintro n z ⟨i,σc,Hc,Iz,stz,frz,wz⟩
  rcases turn i n σc Hc wz with⟨stop,qd⟩ | ⟨go,step⟩
  ·refine thn (T.done (cxC X N' scope cl' h3.objs.size fp pins {s2 with heap:=h3} (upd H2 s2.heap.objs.size (.lst []))) rfl rfl rfl hc i [] z σc Hc noE Iz (stat frz) stz stop) fun r s4 zz50=>?_
   obtain⟨hr,I5⟩:=zz50
   subst hr
   have J5:Inv X pins σ Hc s4:=I3.call' (s':=s4) I5.os I5.base I5.hok I5.bare fun b hb=>⟨(f3 b hb).2.2.2.1,(f3 b hb).2.1,(f3 b hb).2.2.2.2.1,(f3 b hb).2.2.2.2.2⟩
   obtain⟨m,hm,_⟩:=I5.loc
   refine back _ _ Hc s4 ⟨m,hm⟩ J5 I5.free (Nat.ne_of_gt I3.lt) (Nat.le_trans I3.ok.above (Nat.le_of_lt I3.lt)) (fun x c e z=>?_) (fun p hp z=>?_) qd
   ·obtain⟨v,q⟩:=I3.cell x c e
    exact absurd q.lt (by rw[z];exact Nat.lt_irrefl _)
   ·exact absurd (Aj (I3.pin p hp).1) (by rw[z];exact Nat.lt_irrefl _)
  ·refine thn (T.item (cxC X N' scope cl' h3.objs.size fp pins {s2 with heap:=h3} (upd H2 s2.heap.objs.size (.lst []))) rfl rfl rfl hc i [] z σc Hc noE Iz (stat frz) stz go) fun r s4 zz51=>?_
   obtain⟨u,hr,h4⟩:=zz51
   subst hr
   refine thn h4 fun _ s5 zz52=>?_
   obtain⟨x,H5,I5,r5,y5,st5,fr5⟩:=zz52
   have I5':=I5.pinned (stat fr5) (T.obj _ _ st5)
   refine thn (hg _ _ _ _ _ _ _ s5 σc H5 x u _ I5' r5 (step x H5 y5)) fun _ s6 zz53=>?_
   obtain⟨σ6,H6,I6,q6⟩:=zz53
   refine thn (hq _ _ _ _ _ _ _ s6 σ6 H6 _ I6 q6) fun ok s6' zz54=>?_
   obtain⟨H6',I6',q6'⟩:=zz54
   cases ok with
   | false=>
    rw[if_neg Bool.false_ne_true] at q6' ⊢
    obtain⟨m',hm,w7⟩:=q6'
    refine⟨m',hm,i+1,σ6,_,I6'.unpinned,T.keep _ _ _ st5 fun b hb o e=>(I6'.pin (b,o) (Ay _ (Ay _ (Xf hb e)))).1,fun b hb=>?_,w7⟩
    obtain⟨o,e,d⟩:=T.obj _ _ st5 b hb
    exact(I6'.pin (b,o) (Ay _ (Ay _ (Xf hb e)))).2.1
   | true=>
   rw[if_pos rfl] at q6' ⊢
   refine thn (he _ _ _ _ _ _ _ s6' σ6 H6' _ I6' q6') fun v s7 zz55=>?_
   obtain⟨y,H7,I7,r7,acc,hD,hlen,m',hm,w7⟩:=zz55
   refine thn (Qr _ s7 σ6 H7 (.ref s2.heap.objs.size) [y] (.ref s2.heap.objs.size) [v] (fun _ H8=>H8=upd H7 s2.heap.objs.size (.lst (acc++[y]))) I7 rfl (.cons r7 .nil) ⟨_,acc,y,rfl,rfl,hD,hlen,rfl⟩) fun _ s8 zz56=>?_
   obtain⟨_,H8,I8,_,e8⟩:=zz56
   subst e8
   refine⟨m',hm,i+1,σ6,_,I8.unpinned,T.keep _ _ _ st5 fun b hb o e=>(I8.pin (b,o) (Ay _ (Ay _ (Xf hb e)))).1,fun b hb=>?_,w7⟩
   obtain⟨o,e,d⟩:=T.obj _ _ st5 b hb
   exact(I8.pin (b,o) (Ay _ (Ay _ (Xf hb e)))).2.1
 exact codeAny_compStart_list loop (T.self _ 0 _ _ _ st4 loop)
theorem Zk3(hc:X.calm=true)(ho:S7 X.env.scope X.N N' js scope=true)(hi:PI X tg iter wi)(hg:∀cl C fp pins s H,PG (cxC X N' scope cl C fp pins s H) tg g)(hq:∀cl C fp pins s H,PT (cxC X N' scope cl C fp pins s H) c tc)(he:∀cl C fp pins s H,PE (cxC X N' scope cl C fp pins s H) elt te)
  (hs:∀x,foldedSetIterable iter X.env x=pure x:=by intro _;rfl):PE X (.ListComp elt [⟨tg,iter,[c],0⟩] scope pos) (Zs6 js wi g tc te):=by
 intro pins s σ H Q I h
 have S:=CompScope.of ho
 obtain⟨cl,hcl,c1,c2⟩:=Ta (scope:=scope) (env:=X.env) fun n hn=>I.ok.has n (S.free n hn)
 rw[eval_ListComp]
 refine Kr (use:=none) rfl hs hcl S.kind S.loc (thn (hi pins s σ H _ I h) fun v s1 h1=>thn h1 fun itv s2 h2=>?_)
 obtain⟨it,fp,tn,J,H2,e,I2,T,st2,f2,q2⟩:=h2
 subst e
 refine Qg (QD:=fun D Hc=>Q (.ref D) Hc) (R:=fun acc C=>compPost (model X.prog X.w) X.A X.xe none (EP X pins σ Q) acc C) hc S c1 c2 hg hq he I2 T st2 f2 q2 ?_
 rintro D C Hc s4 ⟨m,hm⟩ J4 fC nL sC cC pC qd
 refine⟨m,hm,fun h' hs'=>⟨.ref D,Hc,?_,rfl,qd⟩⟩
 exact J4.turned (t':=s4.toks) (fun b o hb e=>(hs'.2 b hb).trans e) fC nL (.inr sC) cC pC
def Yc2(i:Nat)(js:List (Option Nat))(wi:TI)(g:TG)(tc:TT)(te:TE):TS:=fun D σ H=>Zs6 js wi g tc te σ H fun v H1=>D.nx (σ.set i (some v)) H1
theorem Zm7{i:Nat}{x:Str}(hc:X.calm=true)(ho:S7 X.env.scope X.N N' js scope=true)(hN:X.N.Nodup)(hx:X.N[i]?=some x)(hl:X.env.scope.names.lookup x=some .local)(hi:PI X tg iter wi)
  (hg:∀cl C fp pins s H,PG (cxC X N' scope cl C fp pins s H) tg g) (hq:∀cl C fp pins s H,PT (cxC X N' scope cl C fp pins s H) c tc) (he:∀cl C fp pins s H,PE (cxC X N' scope cl C fp pins s H) elt te)
  (hsw:swapsWith (.ListComp elt [⟨tg,iter,[c],0⟩] scope pos) (some (.Name x px)) spos.line X.env=pure true)
  (hs:∀x,foldedSetIterable iter X.env x=pure x:=by intro _;rfl):PS X (.Assign [.Name x px] (.ListComp elt [⟨tg,iter,[c],0⟩] scope pos) spos) (Yc2 i js wi g tc te):=by
 intro pins s σ H D I h
 have S:=CompScope.of ho
 obtain⟨cl,hcl,c1,c2⟩:=Ta (scope:=scope) (env:=X.env) fun n hn=>I.ok.has n (S.free n hn)
 rw[exec_Assign_Name_used _ _ _ _ hsw]
 refine Aa (Kh (Aa ?_))
 show wpAny _ _ (do let _ ←comprehension (.ListComp elt [⟨tg,iter,[c],0⟩] scope pos) scope X.env _ (newList []) false (eval iter X.env) (some (assign (.Name x px) X.env))) _ _ s
 refine Aa (Dv (Kr (use:=some (assign (.Name x px) X.env)) (Q:=fun _ s'=>SP X pins D .next s') rfl hs hcl S.kind S.loc (thn (hi pins s σ H _ I h) fun v s1 h1=>thn h1 fun itv s2 h2=>?_)) (fun _ s' hq=>Ag (Ag hq)) fun _ _ e=>e)
 obtain⟨it,fp,tn,J,H2,e,I2,T,st2,f2,q2⟩:=h2
 subst e
 refine Qg (QD:=fun E' Hc=>D.nx (σ.set i (some (.ref E'))) Hc) (R:=fun acc C=>compPost (model X.prog X.w) X.A X.xe (some (assign (.Name x px) X.env)) (fun _ s'=>SP X pins D .next s') acc C) hc S c1 c2 hg hq he I2 T st2 f2 q2 ?_
 rintro E' C Hc s4 ⟨m,hm⟩ J4 fC nL sC cC pC qd
 show wpAny _ _ (assign (.Name x px) X.env (.ref E')) _ _ s4
 refine wpAny_assign_Name (Qv J4 hN hx (.inl hl) (v:= .ref E') rfl (fun s5 J5 zz57=>?_) (.inr hl))
 obtain⟨a,sb,ha⟩:=zz57
 have hCa:C≠a:=by
  rcases ha with z | z
  ·rw[z];exact nL
  ·exact(cC x a z).symm
 refine⟨m,hm.sameBut sb hCa,fun h' hs'=>⟨σ.set i (some (.ref E')),Hc,?_,qd⟩⟩
 exact J5.turned (t':=s5.toks) (fun b o hb e=>(hs'.2 b hb).trans e) fC nL (.inr sC) cC pC
end
end L3
namespace L3
open PySem
def ExAt(h:Heap)(e:Addr)(cls:Value)(dd:Option Addr)(tb:Value):Prop:=∃oe vs,h.get? e=some oe∧(oe.cls=cls∧oe.dict=dd)∧oe.data= .fields vs∧vs[1]?=some tb
def TbAt(h:Heap)(T:Addr)(fl:Value):Prop:=∃oT ts,h.get? T=some oT∧oT.data= .fields ts∧ts[3]?=some fl
theorem ExAt.at(x:ExAt h e cls dd tb)(k:∀o,h.get? e=some o→h'.get? e=some o):ExAt h' e cls dd tb:=
 let ⟨oe,vs,he,r⟩:=x;⟨oe,vs,k _ he,r⟩
theorem Pp(o:Obj)(f:Array Value→Array Value):(o.mapFields f).dict=o.dict:=by
 obtain⟨c,d,dt,sl⟩:=o;cases dt<;>rfl
structure Flown(fs xs:List Addr)(h h':Heap):Prop where
 keep:∀b o,h.get? b=some o→b∉fs→b∉xs→h'.get? b=some o
 slot:∀b o,h.get? b=some o→b∈fs→b∉xs→∃sl,h'.get? b=some {o with slots:=sl}
 there:∀b o,h.get? b=some o→∃o',h'.get? b=some o'
theorem Flown.trans{fs xs ys:List Addr}(a:Flown fs xs h h1)(b:Flown fs ys h1 h2)(hy:∀z∈ys,z∈xs∨h.get? z=none):Flown fs xs h h2 where
 keep:=fun c o e hf hx=>b.keep c o (a.keep c o e hf hx) hf fun z=>(hy c z).elim hx fun q=>by rw[q] at e;cases e
 slot:=fun c o e hf hx=>by
  obtain⟨sl,e1⟩:=a.slot c o e hf hx
  obtain⟨sl',e2⟩:=b.slot c _ e1 hf fun z=>(hy c z).elim hx fun q=>by rw[q] at e;cases e
  exact⟨sl',e2⟩
 there:=fun c o e=>by obtain⟨o1,e1⟩:=a.there c o e;exact b.there c o1 e1
section
variable{M:Model}{A:Around}{E:Value→Shared→Prop}{s:Shared}{base:Heap}{env:Env}{outer:List Env}{L e:Addr}{cls:Value}{dd:Option Addr}{tb:Value}
noncomputable abbrev frsE(l:List Env):List Addr:=l.filterMap (·.frame)
theorem Y21(hl:s.heap.FunFrames base (env::outer))(hx:ExAt s.heap e cls dd tb):e∉frsE (env::outer):=fun hm=>by
 obtain⟨oe,vs,he,_,hd,_⟩:=hx
 obtain⟨_,o,ho,hnf⟩:=hl.mem hm
 rw[he] at ho;injection ho with ho;subst ho;exact hnf vs hd
theorem Jh(hfr:A.frames=some (env::outer))(hl:s.heap.FunFrames base (env::outer))(hf:env.frame=some L)(hx:ExAt s.heap e cls dd tb)
  (h:∀h' T,s.heap.objs.size≤T→T≠e→ExAt h' e cls dd (.ref T)→TbAt h' T (rawInt L)→Flown (frsE (env::outer)) [e] s.heap h'→Q () {s with heap:=h'}):
  wpAny M A (do let a ←frameOf env;let pl ←entryPlaceOf L hadNext;let b ←EntryCells.newEntry head a .none (rawInt L) .none pl;setField (.ref e) 1 b) Q E s:=by
 have hene:=Y21 hl hx
 obtain⟨oe,vs,he,⟨hc,hdd⟩,hd,h1⟩:=hx
 have hsz:1<vs.size:=(Array.getElem?_eq_some_iff.mp h1).1
 refine Aa (wpAny_frameOf_fun hfr hl hf fun h1 hs1=>?_)
 refine Aa (wpAny_entryPlaceOf fun pl hpl=>?_)
 unfold EntryCells.newEntry newFields
 refine Aa (Hw ?_ (hpl.sizeOk5 _ _ _ _ _))
 generalize hob:({cls:= .type "traceback",dict:=none,data:= .fields ([head,.ref L,.none,rawInt L,.none]++(if pl.isEmpty then Df 6 Value.none else pl)).toArray}:Obj)=ob
 have he1:h1.get? e=some oe:=(hs1.2.1 e hene).trans he
 have hne:ob.isFreed=false:=by rw[←hob];rfl
 refine Lq (Ae ob he1) hd hsz (h _ h1.objs.size ?_ (Nat.ne_of_gt (Aj he1)) ?_ ?_ ?_)
 ·exact Nat.le_of_eq hs1.1.symm
 ·have hd3:=Ij hd (·.setIfInBounds 1 (Value.ref h1.objs.size))
  refine⟨_,_,Ds _ (Ae ob he1) (Ke hd3),⟨(Obj.cls_mapFields _ _).trans hc,(Pp _ _).trans hdd⟩,hd3,by simp[hsz]⟩
 ·refine⟨ob,_,(Dl _ _ (Nat.ne_of_lt (Aj he1))).trans (Aq h1 hne),by rw[←hob],?_⟩
  first | (simp;done) | (rcases hpl with rfl | ⟨_,_,_,_,_,_,_,rfl⟩<;>simp)
 ·have keep:∀b o,b≠e→h1.get? b=some o→((h1.push ob).update e (Ki (·.setIfInBounds 1 (Value.ref h1.objs.size)))).get? b=some o:=fun b o hb q=>by
   rw[Dl _ _ (Ch hb)]
   exact Ae _ q
  refine⟨fun b o q hb hx=>keep b o (by simpa using hx) ((hs1.2.1 b hb).trans q),fun b o q hb hx=>?_,fun b o q=>?_⟩
  ·obtain⟨sl,z⟩:=hs1.2.2 b o q
   exact⟨sl,keep b _ (by simpa using hx) z⟩
  ·obtain⟨sl,z⟩:=hs1.2.2 b o q
   by_cases hb:b=e
   ·subst hb
    exact⟨_,Ds _ (Ae ob he1) (Ke (Ij hd _))⟩
   ·exact⟨_,keep b _ hb z⟩
theorem Bj(hfr:A.frames=some (env::outer))(hl:s.heap.FunFrames base (env::outer))(hf:env.frame=some L)(hx:ExAt s.heap e cls dd .none)
  (h:∀h' T,s.heap.objs.size≤T→T≠e→ExAt h' e cls dd (.ref T)→TbAt h' T (rawInt L)→Flown (frsE (env::outer)) [e] s.heap h'→Q () {s with heap:=h'}):
  wpAny M A (noteFrame (.ref e) env) Q E s:=by
 obtain⟨oe,vs,he,hc,hd,h1⟩:=id hx
 unfold noteFrame
 simp only[hf]
 refine Aa (Ex he hd h1 ?_)
 rw[if_neg (by decide)]
 exact Jh hfr hl hf hx h
theorem Gw(hfr:A.frames=some (env::outer))(hl:s.heap.FunFrames base (env::outer))(hf:env.frame=some L)(hx:ExAt s.heap e cls dd (.ref T0))(ht:TbAt s.heap T0 .none)(hne:T0≠e)
  (h:∀h' T,s.heap.objs.size≤T→T≠e→ExAt h' e cls dd (.ref T)→TbAt h' T (rawInt L)→Flown (frsE (env::outer)) [e,T0] s.heap h'→Q () {s with heap:=h'}):
  wpAny M A (noteFrame (.ref e) env) Q E s:=by
 obtain⟨oe,vs,he,hc,hd,h1⟩:=id hx
 obtain⟨oT,ts,hT,hdT,h3⟩:=id ht
 unfold noteFrame
 simp only[hf]
 refine Aa (Ex he hd h1 ?_)
 rw[if_pos (show(Value.ref T0 !=Value.none)=true from by simp)]
 refine Aa (Ex hT hdT h3 ?_)
 rw[if_neg (show ¬((Value.none==rawInt L)=true) from by simp[rawInt])]
 refine Aa (Lq hT hdT (Array.getElem?_eq_some_iff.mp h3).1 ?_)
 have other:∀b,b≠T0→(s.heap.update T0 (Ki (·.setIfInBounds 3 Value.none))).get? b=s.heap.get? b:=fun b hb=>Dl _ _ (Ch hb)
 have selfT:(s.heap.update T0 (Ki (·.setIfInBounds 3 Value.none))).get? T0=some (oT.mapFields (·.setIfInBounds 3 Value.none)):=Ds _ hT (Ke (Ij hdT _))
 have noRec:∀b o,s.heap.get? b=some o→(∀vs,o.data≠ .fields vs)→b≠T0:=fun b o hb hnf q=>by
  rw[q,hT] at hb;injection hb with hb;subst hb;exact hnf ts hdT
 have fl0:Flown (frsE (env::outer)) [e,T0] s.heap (s.heap.update T0 (Ki (·.setIfInBounds 3 Value.none))):=by
  refine⟨fun b o q _ hx=>(other b (by simp at hx;exact hx.2)).trans q,fun b o q _ hx=>⟨o.slots,(other b (by simp at hx;exact hx.2)).trans q⟩,fun b o q=>?_⟩
  by_cases hb:b=T0
  ·subst hb;exact⟨_,selfT⟩
  ·exact⟨o,(other b hb).trans q⟩
 refine Jh (s:={s with heap:=s.heap.update T0 (Ki (·.setIfInBounds 3 Value.none))}) hfr (hl.of_keeps fun b o hb hnf=>⟨o,(other b (noRec b o hb hnf)).trans hb,rfl⟩) hf
  (hx.at fun o q=>(other e (Ch hne)).trans q) fun h' T z1 z2 z3 z4 z5=>h h' T ?_ z2 z3 z4 (fl0.trans z5 fun z hz=> .inl (by simp at hz;simp[hz]))
 exact Nat.le_trans (Nat.le_of_eq (Heap.size_update ..).symm) z1
theorem R7(hx:ExAt s.heap e cls dd (.ref T0))(ht:TbAt s.heap T0 fl)(hne:T0≠e)
  (h:∀h',ExAt h' e cls dd (.ref T0)→TbAt h' T0 (fr.elim Value.none fun f=>rawInt f)→(∀b o,b≠T0→s.heap.get? b=some o→h'.get? b=some o)→(∀b o,s.heap.get? b=some o→∃o',h'.get? b=some o')→Q () {s with heap:=h'}):
  wpAny M A (setFlight (.ref e) fr) Q E s:=by
 obtain⟨oe,vs,he,hc,hd,h1⟩:=id hx
 obtain⟨oT,ts,hT,hdT,h3⟩:=id ht
 have hsz3:3<ts.size:=(Array.getElem?_eq_some_iff.mp h3).1
 have other:∀b,b≠T0→(s.heap.update T0 (Ki (·.setIfInBounds 3 (fr.elim Value.none fun f=>rawInt f)))).get? b=s.heap.get? b:=fun b hb=>Dl _ _ (Ch hb)
 have selfT:(s.heap.update T0 (Ki (·.setIfInBounds 3 (fr.elim Value.none fun f=>rawInt f)))).get? T0=some (oT.mapFields (·.setIfInBounds 3 (fr.elim Value.none fun f=>rawInt f))):=Ds _ hT (Ke (Ij hdT _))
 unfold setFlight
 refine Aa (Ex he hd h1 ?_)
 rw[if_pos (show(Value.ref T0 !=Value.none)=true from by simp)]
 refine Lq hT hdT hsz3 (h _ (hx.at fun o q=>(other e (Ch hne)).trans q) ⟨_,_,selfT,Ij hdT _,by simp[hsz3]⟩ (fun b o hb q=>(other b hb).trans q) fun b o q=>?_)
 by_cases hb:b=T0
 ·subst hb;exact⟨_,selfT⟩
 ·exact⟨o,(other b hb).trans q⟩
end
end L3
namespace L3
open PySem PySem.W
noncomputable abbrev G7(rest:List Value):Obj:={cls:= .type "tuple",data:= .seq rest.toArray}
noncomputable abbrev Pu(C t:Addr):Obj:={cls:= .ref C,data:= .fields #[.ref t,.none,.none,.none,.bool false,.none]}
section
variable{prog:Program}{w:World}{A:Around}{h:Heap}{g:Array GenState}{d:Drawn}{t:Nat}{os:OsState}
variable{nm q:Str}{C N f:Addr}{bs bm:List Value}{hdct:Bool}{sn:List Str}{sub:List Value}{ab:Bool}{col:Option Bool}{dd:Option Addr}{k0 k1 k2 k3 k5:Option Value}{Bn newId inN:String}{bmN:List Value}
structure ExcCls(h:Heap)(C:Addr)(nm q:Str)(N:Addr)(bs bm:List Value)(hdct:Bool)(sn:List Str)(sub:List Value)(ab:Bool)(col:Option Bool)(dd:Option Addr)(k0 k1 k2 k3 k5:Option Value)(Bn newId:String):Prop where
 obj:h.get? C=some (excClassObj nm q C N bs bm hdct sn sub ab col dd k0 k1 k2 k3 k5 newId)
 hB:(Value.ref C::bm).contains (.type Bn)=true
 hA:(Value.ref C::bm).contains (.type "AttributeError")=false
 hN:(Value.ref C::bm).contains (.type "NameError")=false
 hE:(Value.ref C::bm).contains (.type "BaseException")=true
theorem Z59{E:Value→Shared→Prop}(Fn:ExcBaseFacts Bn newId inN bmN)(x:ExcCls h C nm q N bs bm hdct sn sub ab col dd k0 k1 k2 k3 k5 Bn newId){rest:List Value}(hq:Q () ⟨h,g,d,t,os⟩):
  wpAny M A (checkBuiltinCall newId ⟨.ref C::rest,[]⟩) Q E ⟨h,g,d,t,os⟩:=by
 have hC:=x.obj
 have hB:=x.hB
 have hstar:=Fn.noStar
 simp only[checkBuiltinCall,Fn.newKind,Fn.newSplit,Fn.newRow]
 repeat (first
  | refine Im hC ?_
  |(refine Kw hC ?_;rw[hB])
  | refine wpAny_staticBase_exc hC ?_
  | refine wpAny_madeBy_exc hC ?_
  | simp only[bne_self_eq_false,Bool.false_eq_true,if_false]
  | wp_step)
 exact hq
theorem Y11(Fn:ExcBaseFacts Bn newId inN bmN)(x:ExcCls h C nm q N bs bm hdct sn sub ab col dd k0 k1 k2 k3 k5 Bn newId){rest:List Value}
  (hq:R (.ok (.ret (.ref (h.objs.size+1)))) ⟨(h.push (G7 rest)).push (Pu C h.objs.size),g,d,t,os⟩) (hrest:rest.length≤sizeLine):
  codeAny (model prog w) A (.builtin newId ⟨.ref C::rest,[]⟩) R ⟨h,g,d,t,os⟩:=by
 have hends:=Fn.ends
 obtain⟨hC,hcB,hcA,hcN,_⟩:=x
 refine codeAny_builtinAt Fn.entry ?_
 unfold Builtin.«BaseException.__new__»
 refine wpAt_bind ?_
 show wpAt _ _ _ (stack >>=_) _ _ _
 refine wpAt_bind (wpAt_stack fun p below=>wpAt_of_wpAny ?_)
 wp_walk
 refine wpAt_of_wpAny ?_
 rw[Fn.owner]
 repeat (first
  | with_reducible refine wpAny_madeHere_exc Fn.canon hC ?_
  | with_reducible refine Im hC ?_
  |(with_reducible refine Kw hC ?_;first | rw[hcB] | rw[hcA] | rw[hcN])
  | wp_step)
 show R _ _
 rw[Ia]
 exact hq
def Zw6(e:Addr)(R:Result→Shared→Prop)(r:Result)(s':Shared):Prop:=match r with
 | .ok (.ret v)=>v= .none∧R (.ok (.ret (.ref e))) s'
 | .ok _=>False
 | .error z=>R (.error z) s'
theorem Zg0(Fn:ExcBaseFacts Bn newId inN bmN)(x:ExcCls h C nm q N bs bm hdct sn sub ab col dd k0 k1 k2 k3 k5 Bn newId){rest:List Value}
  (hi:Looks (model prog w) h (typeLookup (.ref C) "__init__") (some (.ref f))) (hb:∀self,Looks (model prog w) h (bindSpecial (.ref f) self) (.ref f,[self]))
  (hq:codeAny (model prog w) (A.under (.builtin "type.__call__" ⟨.ref C::rest,[]⟩)) (.call (.ref f) ⟨.ref (h.objs.size+1)::rest,[]⟩) (Zw6 (h.objs.size+1) R) ⟨(h.push (G7 rest)).push (Pu C h.objs.size),g,d,t,os⟩)
  (hrest:rest.length≤sizeLine):codeAny (model prog w) A (.call (.ref C) ⟨rest,[]⟩) R ⟨h,g,d,t,os⟩:=by
 have hC:=x.obj
 have f1:=tc_lookup
 have f2:=tc_bind (.ref C)
 have hT:(⟨h,g,d,t,os⟩:Shared).TypeIs (.ref C) "type":=⟨_,hC,rfl⟩
 refine codeAny_of_tree ?_
 show wpAny _ _ (callAny (.ref C) _) _ _ _
 repeat (any_goals (first | assumption | with_reducible refine Im hC ?_ | wp_step))
 refine⟨rfl,?_⟩
 refine codeAny_call_builtin_at (Code.quiet_builtin _ (by decide+kernel)) entry_typeCall (wpAny_check_type_call_sub hC ?_)
 repeat (first | with_reducible refine Im hC ?_ | with_reducible refine wpAny_madeBy_exc hC ?_ | wp_step)
 refine codeAny_call_builtin_code (Code.quiet_builtin _ Fn.quiet) (Z59 Fn x ?_)
 refine Y11 Fn x ?_ hrest
 show wpAny _ _ _ _ _ _
 have k:∀b o,h.get? b=some o→((h.push (G7 rest)).push (Pu C h.objs.size)).get? b=some o:=fun b o e=>Ae _ (Ae _ e)
 have hC1:=k _ _ hC
 have hget:((h.push (G7 rest)).push (Pu C h.objs.size)).get? (h.objs.size+1)=some (Pu C h.objs.size):=by heap_get
 have hcC:(Value.ref C::bm).contains (.ref C)=true:=by simp
 have i1:=hi.keeps k
 have b1:=(hb (.ref (h.objs.size+1))).keeps k
 have t1:Looks (model prog w) ((h.push (G7 rest)).push (Pu C h.objs.size)) (typeOf (.ref (h.objs.size+1))) (.ref C):=(Looks.ld hget).andThen .now
 unfold isInstance
 repeat (first | with_reducible refine Im hget ?_ | (with_reducible refine Kw hC1 ?_;rw[hcC]) | wp_step)
 show wpAny _ (A.under (.builtin "type.__call__" ⟨.ref C::rest,[]⟩)) (isSubtype (.ref C) (.ref C)) _ _ ⟨(h.push (G7 rest)).push (Pu C h.objs.size),g,d,t,os⟩
 refine Kw hC1 ?_
 rw[hcC]
 unfold callSpecial? specialOf
 repeat (first | simp only[Bool.not_true,Bool.false_eq_true,if_false] | with_reducible refine Lo ?_ | lk)
 refine Ix hq fun r s' z=>?_
 rcases r with e | (v | _ | _ | _)<;>first | exact z | exact z.elim | skip
 obtain⟨rfl,z⟩:=z
 exact Ag (Ag z)
end
end L3
namespace L3
open PySem PySem.W PySem.Calls PyProof.Rows Builtin Builtin.ObjectAttr
theorem Bp(self:Value):refuseLoop self "__setattr__" [.type "ValueError",.type "Exception",.type "BaseException",.type "object"]=pure ():=by
 kernel_rfl
structure ExcSet(K:Frag)(C:Addr)(name:Str):Prop where
 cls:∃cd own,clsIn K C=some cd∧cd.hasDict=true∧cd.mro=own++[.type "ValueError",.type "Exception",.type "BaseException",.type "object"]∧∀v∈own,∃a,v=Value.ref a
 no:findIn K (.ref C) name=some none
 set:findIn K (.ref C) "__setattr__"=some (some (.builtin "object.__setattr__"))
theorem Ot(self:Value):∀own:List Value,(∀v∈own,∃a,v=Value.ref a)→refuseLoop self "__setattr__" (own++[.type "ValueError",.type "Exception",.type "BaseException",.type "object"])=pure ()
 | [],_=>Bp self
 | v::r,h=>by
  obtain⟨a,rfl⟩:=h v He
  rw[Hl,refuseLoop_ref]
  exact Ot self r fun u hu=>h u (Dr _ hu)
section
variable{prog:Program}{w:World}{A:Around}{K:Frag}{C e:Addr}{s:Shared}{name:Str}{R:Result→Shared→Prop}
theorem Zc3{v:Value}(X:K.In s.heap)(S:ExcSet K C name)(he:s.heap.get? e=some oe)(hc:oe.cls= .ref C)(hdd:oe.dict=none)(hd:oe.data= .fields vs)
  (h:∀h' tk',h'.get? e=some {oe with dict:=some s.heap.objs.size}→h'.Ns1 s.heap.objs.size (fun x=>if x=name then some v else none)→(∀b o,b≠e→s.heap.get? b=some o→h'.get? b=some o)→R (.ok (.ret .none)) {s with heap:=h',toks:=tk'}):
  codeAny (model prog w) A (.call (.builtin "object.__setattr__") ⟨[.ref e,.str name tk,v],[]⟩) R s:=by
 obtain⟨⟨cd,own,hcd,hhd,hmro,hown⟩,hno,_⟩:=S
 have SF:=PySem.F.store_object
 have ty:Looks (model prog w) s.heap (typeOf (.ref e)) (.ref C):=by rw[←hc];exact(Looks.ld he).andThen .now
 have ne:cd.mro.isEmpty=false:=by rw[hmro];cases own<;>rfl
 have ho:cd.mro.contains (.type "object")=true:=by rw[hmro];simp
 have sub:Looks (model prog w) s.heap (isInstance (.ref e) (.type "object")) true:=ty.andThen (looks_mroIn X (by unfold mroIn;rw[hcd,Dp,if_neg (by rw[ne];decide),ho]))
 refine codeAny_call_builtin SF.slot.plain SF.entry (@check_slot (model prog w) _ _ s "object.__setattr__" "object" "__setattr__" (.ref e) [.str name tk,v] [] _ SF.kind SF.split sub (SF.args (.ref e) (.str name tk) v) ?_)
 have hm:Looks (model prog w) s.heap (mroOf (.ref C)) cd.mro:=(looks_clsIn X hcd).andThen .now
 rw[osa_eq,refuse_eq]
 refine Aa (Aa (ty.here (Aa (hm.here ?_))))
 rw[hmro,Ot _ own hown]
 refine Ag (Aa (ty.here (Aa ((looks_findIn X hno).here (Aa (Ag ?_))))))
 show wpAny _ _ (storeInOwnDict (.ref e) (.ref C) (.str name tk) name v false) _ _ _
 obtain⟨c,dct,dt,sl⟩:=oe
 dsimp only at hc hdd hd
 subst hc hdd hd
 refine Aa (Ag (Aa (Aa (wpAny_loadPart he (Aa ((looks_clsIn X hcd).here ?_))))))
 rw[hhd]
 show wpAny _ _ (alloc {cls:=Value.type "dict",data:=Lw #[]} >>=fun d=>update e (fun o=>{o with dict:=some d}) >>=fun _=>dictMade (.ref C) e d) _ _ s
 refine Aa (wpAny_alloc (Aa (wpAny_update (Ae _ he) ?_)))
 refine Ag (a:=some s.heap.objs.size) ?_
 refine Aa (Ag (Aa ?_))
 have D:((s.heap.push {cls:=Value.type "dict",data:=Lw #[]}).update e fun o=>{o with dict:=some s.heap.objs.size}).get? s.heap.objs.size=some {cls:=Value.type "dict",data:=Lw #[]}:=
  (Dl _ _ (Nat.ne_of_lt (Aj he))).trans (Aq _ rfl)
 have D2:∀f:Obj→Obj,(f {cls:=Value.type "dict",data:=Lw #[]}).isFreed=false→(((s.heap.push {cls:=Value.type "dict",data:=Lw #[]}).update e fun o=>{o with dict:=some s.heap.objs.size}).update s.heap.objs.size f).get? s.heap.objs.size=
   some (f {cls:=Value.type "dict",data:=Lw #[]}):=fun f hf=>Ds f D hf
 unfold nsSet
 refine Aa (Aa (wpAny_askSetting (Ag (Aa (wpAny_mkText (Aa (wpAny_loadPart D ?_)))))))
 dsimp only
 rw[show aRefKeyMayBeTheName name #[]=false from rfl,if_neg Bool.false_ne_true]
 refine wpAny_updatePart D ?_
 refine Aa (wpAny_lookBehind (D2 _ rfl) ?_ ?_)
 ·exact pastItsLine_dict (by show 1≤_;decide)
 refine Ag ?_
 refine h _ _ ?_ ?_ ?_
 ·rw[Dl _ _ (Nat.ne_of_gt (Aj he))]
  exact Ds _ (Ae _ he) rfl
 ·refine⟨_,_,_,D2 _ rfl,rfl,?_,?_,?_⟩
  ·show StrKeys #[(⟨_,.str name _,v⟩:DictEntry)]
   intro x hx
   simp at hx
   subst hx
   exact⟨name,_,rfl⟩
  ·show UniqKeys #[(⟨_,.str name _,v⟩:DictEntry)]
   simp[UniqKeys]
  ·intro n
   show nsFind #[(⟨_,.str name _,v⟩:DictEntry)] n=_
   by_cases hn:n=name
   ·subst hn
    simp[nsFind,findBy,Value.isStr]
   ·have hb:(name==n)=false:=by simpa using Ch hn
    simp[nsFind,findBy,Value.isStr,hb,hn]
 ·intro b o hb q
  rw[Dl _ _ (Nat.ne_of_gt (Aj q)),Dl _ _ (Ch hb)]
  exact Ae _ q
theorem Ef{v:Value}{E:Value→Shared→Prop}(X:K.In s.heap)(S:ExcSet K C name)(he:s.heap.get? e=some oe)(hc:oe.cls= .ref C)(hdd:oe.dict=none)(hd:oe.data= .fields vs)
  (h:∀h' tk',h'.get? e=some {oe with dict:=some s.heap.objs.size}→h'.Ns1 s.heap.objs.size (fun x=>if x=name then some v else none)→(∀b o,b≠e→s.heap.get? b=some o→h'.get? b=some o)→Q () {s with heap:=h',toks:=tk'}):
  wpAny (model prog w) A (setAttr (.ref e) name v) Q E s:=by
 have J:InstAt s.heap e oe C none:=⟨he,hc,by unfold notCls;rw[hd],by rw[hdd];trivial⟩
 exact set_plain X J S.set (Zc3 (s:={s with toks:=s.toks+1}) X S he hc hdd hd fun h' tk' a b c=>h h' tk' a b c)
structure ExcGet(K:Frag)(C:Addr)(name:Str):Prop where
 cls:∃cd,clsIn K C=some cd∧cd.hasDict=true
 no:findIn K (.ref C) name=some none
 ga:findIn K (.ref C) "__getattribute__"=some (some (.builtin "BaseException.__getattribute__"))
 gh:findIn K (.ref C) "__getattr__"=some none
 base:mroIn K C (.type "BaseException")=some true
theorem Zz4(self:Value):bindSpecial (.builtin "BaseException.__getattribute__") self=pure (.builtin "BaseException.__getattribute__",[self]):=by kernel_rfl
theorem Zw8:builtinKind "BaseException.__getattribute__"=some .slot:=by decide+kernel
theorem Zi6:splitId "BaseException.__getattribute__"=some ("BaseException","__getattribute__"):=by decide+kernel
theorem Zp1:plainId "BaseException.__getattribute__"=true:=by decide+kernel
theorem Zv0(a b:Value):argsOk "BaseException.__getattribute__" ⟨[a,b],[]⟩:=by unfold argsOk;kernel_rfl
end
end L3
namespace L3
open PySem PySem.Spec PyProof.Rows L2
noncomputable def XO(e:Addr)(cls:Value)(dd:Option Addr):HO:= .ext fun h=>∃oe vs tb,h.get? e=some oe∧(oe.cls=cls∧oe.dict=dd)∧oe.data= .fields vs∧vs[1]?=some tb
theorem XO.ok(x:ExAt h e cls dd tb):X6 P w H h e (XO e cls dd):=by
 obtain⟨oe,vs,h1,h2,h3,h4⟩:=x
 exact⟨⟨oe,vs,tb,h1,h2,h3,h4⟩,⟨oe,h1⟩,fun a b zz58 k=>by obtain⟨oe,vs,tb,q1,q2⟩:=zz58;exact⟨oe,vs,tb,k _ q1,q2⟩⟩
theorem XO.at(x:X6 P w H h e (XO e cls dd)):∃tb,ExAt h e cls dd tb:=by
 obtain⟨⟨oe,vs,tb,q1,q2,q3,q4⟩,_⟩:=x
 exact⟨tb,oe,vs,q1,q2,q3,q4⟩
noncomputable def CX1(P:Program)(w:World):CXT:=fun outer H s E e s'=>∃(ea T:Addr) (cls:Value) (dd:Option Addr) (H':Hp),e= .ref ea∧s'.os=s.os∧AllBare s'.gens∧Un (frs outer) [] H H' s.heap s'.heap∧HOk P w H' s'.heap∧
 (s.heap.objs.size≤ea∧s.heap.objs.size≤T)∧H' ea=some (XO ea cls dd)∧(H' T=none∧T≠ea)∧ExAt s'.heap ea cls dd (.ref T)∧TbAt s'.heap T .none∧E cls dd H'
structure Leaves(X:Cx)(E:XK):Prop where
 stk:X.stack=X.env::X.outer
 fr:X.env.frame=some X.env.locals
 ex:X.ex=[]
 xe:∀e s',wpAny (model X.prog X.w) X.A (leaving X.env e) (fun _ s''=>CX1 X.prog X.w X.outer X.H₀ X.s₀ E e s'') (fun e' s''=>CX1 X.prog X.w X.outer X.H₀ X.s₀ E e' s'') s'→X.xe e s'
theorem Jg{K:Ab}{s:Shared}{E:XK}:
  Leaves (cxOf (CX1 P w) P w K mg base N qual scope f cd A outer s H E) E:=⟨rfl,rfl,rfl,fun _ _ h=>h⟩
theorem Y41{a:Addr}(x:X6 P w H h a o):∃u,h.get? a=some u:=by
 cases o with
 | lst xs=>obtain⟨_,_,_,_,e⟩:=x;exact⟨_,e⟩
 | tup xs=>obtain⟨_,_,_,⟨_,e,_⟩⟩:=x;exact⟨_,e⟩
 | dK kvs=>obtain⟨_,_,_,_,o,_,_,e,_⟩:=x;exact⟨_,e⟩
 | dT kvs=>obtain⟨_,_,_,_,o,_,_,e,_⟩:=x;exact⟨_,e⟩
 | set S n=>obtain⟨o,_,_,_,e,_⟩:=x;exact⟨_,e⟩
 | ins C dx fs=>obtain⟨_,_,_,e,_⟩:=x;exact⟨_,e⟩
 | own y=>exact x
 | xd fs=>obtain⟨_,⟨_,_,_,e,_⟩,_⟩:=x;exact⟨_,e⟩
 | rng lo hi=>obtain⟨_,_,_,e⟩:=x;exact⟨_,e⟩
 | frz ob u=>obtain⟨e,_⟩:=x;exact⟨_,e⟩
 | tbl ps=>exact⟨_,x⟩
 | met f y=>exact⟨_,x⟩
 | ext φ=>exact x.2.1
section
variable{X:Cx}{E:XK}{pins:List (Addr×Obj)}{σ:L2.St}{H:Hp}{s:Shared}{e T:Addr}{cls:Value}{dd:Option Addr}{xs:List Addr}{h1:Heap}{fl:Value}
theorem Jl(ok:HOk P w H h)(he:H e=some (XO e cls dd))(x:ExAt h' e cls dd tb)(k:∀b u o,H b=some u→b≠e→h.get? b=some o→h'.get? b=some o):HOk P w H h':=fun b u q=>by
 by_cases hb:b=e
 ·subst hb
  rw[he] at q
  cases q
  exact XO.ok x
 ·refine(ok b u q).stay (fun c v hc r=>?_) (fun _ z=>z) fun _ _ z=>z
  rcases hc with z | z
  ·rw[z] at r ⊢;exact k b u v q hb r
  ·refine k c _ v z (fun y=>?_) r
   rw[y,he] at z
   cases z
theorem Oo(L:Leaves X E)(I:Inv X pins σ H s)(fresh:∀b∈xs,(H b=none∨b=e)∧X.s₀.heap.objs.size≤b)(he:e∈xs)(hx:H e=some (XO e cls dd))(hTs:s.heap.objs.size≤T)(hTe:T≠e)
  (x1:ExAt h1 e cls dd (.ref T)) (t1:TbAt h1 T fl) (fl1:Flown (frsE X.stack) xs s.heap h1) (hE:E cls dd H):
  wpAny M A (setFlight (.ref e) none) (fun _ s''=>CX1 X.prog X.w X.outer X.H₀ X.s₀ E (.ref e) s'') E' {s with heap:=h1}:=by
 have hT:s.heap.get? T=none:=Heap.get?_none_of_le hTs
 refine R7 (s:={s with heap:=h1}) x1 t1 hTe fun h2 x2 t2 k2 th2=>?_
 have neT:∀b o,s.heap.get? b=some o→b≠T:=fun b o q z=>by rw[z,hT] at q;cases q
 have nst:∀b o,X.s₀.heap.get? b=some o→b∉frs X.outer→b∉frsE X.stack:=fun b o q hb z=>by
  rw[L.stk] at z
  have z':b∈(X.env::X.outer).filterMap (·.frame):=z
  rw[Kt,L.fr] at z'
  rcases Aw.mp z' with y | y
  ·exact absurd (Aj q) (by rw[y];exact Nat.not_lt.mpr I.ok.above)
  ·exact hb y
 have nxs:∀b o,X.s₀.heap.get? b=some o→b∉xs:=fun b o q z=>absurd (Aj q) (Nat.not_lt.mpr (fresh b z).2)
 have nex:∀b:Addr,b∉X.ex:=fun b z=>by rw[L.ex] at z;cases z
 have T0:X.s₀.heap.objs.size≤T:=Nat.le_trans I.sz hTs
 refine⟨e,T,cls,dd,H,rfl,I.os,I.bare,⟨fun b o q n hb _=>?_,fun b o q n hb _=>?_,fun b o q n _=>I.base.free b o q n (nex b),fun b o q _=>?_,I.base.tups,I.base.frzs,I.base.tbls⟩,?_,⟨(fresh e he).2,T0⟩,hx,⟨?_,hTe⟩,x2,t2,hE⟩
 ·have q1:=I.base.keep b o q n hb (nex b)
  exact k2 b o (neT b o q1) (fl1.keep b o q1 (nst b o q hb) (nxs b o q))
 ·obtain⟨sl,q1⟩:=I.base.slot b o q n hb (nex b)
  have hst:b∈frsE X.stack:=by
   show b∈X.stack.filterMap (·.frame)
   rw[L.stk,Kt,L.fr]
   exact Dr _ hb
  obtain⟨sl',q2⟩:=fl1.slot b _ q1 hst (nxs b o q)
  exact⟨sl',k2 b _ (neT b _ q1) q2⟩
 ·obtain⟨o1,q1⟩:=I.base.there b o q (nex b)
  obtain⟨o2,q2⟩:=fl1.there b o1 q1
  exact th2 b o2 q2
 ·refine Jl I.hok hx x2 fun b u o q hb r=>k2 b o (neT b o r) (fl1.keep b o r (fun z=>?_) fun z=>?_)
  ·have:=I.stkFree b z
   rw[q] at this;cases this
  ·rcases(fresh b z).1 with y | y
   ·rw[q] at y;cases y
   ·exact hb y
 ·cases q:H T with
  | none=>rfl
  | some u=>
   obtain⟨o,z⟩:=Y41 (I.hok T u q)
   rw[hT] at z;cases z
theorem Yh4(L:Leaves X E):Fb (CX1 X.prog X.w) X E:=by
 rintro pins σ H s e s' I ⟨ea,T,cls,dd,H',eq,os,bare,un,hok,⟨f1,f2⟩,g1,⟨g2,g3⟩,x1,t1,hE⟩
 subst eq
 have J:Inv X pins σ H' s':=I.call' (ch:=[]) os un hok bare fun b z=>absurd z (by simp)
 have s0:∀b,s.heap.objs.size≤b→X.s₀.heap.objs.size≤b:=fun b hb=>Nat.le_trans I.sz hb
 refine L.xe _ _ ?_
 unfold leaving
 refine Aa (Gw (outer:=X.outer) (base:=X.base) (L:=X.env.locals) (by rw[←L.stk];exact J.ok.frames) (by rw[←L.stk];exact J.stack) L.fr x1 t1 g3 fun h1 T1 z1 z2 z3 z4 z5=>?_)
 refine Oo (xs:=[ea,T]) L J (fun b hb=>?_) (by simp) g1 z1 z2 z3 z4 (by rw[L.stk];exact z5) hE
 rcases Aw.mp hb with z | z
 ·rw[z];exact⟨.inr rfl,s0 _ f1⟩
 ·rw[Db.mp z];exact⟨.inl g2,s0 _ f2⟩
theorem Y87(L:Leaves X E)(I:Inv X pins σ H s)(hx:H e=some (XO e cls dd))(hn:ExAt s.heap e cls dd .none)(h0:X.s₀.heap.objs.size≤e)(hE:E cls dd H):X.xe (.ref e) s:=by
 refine L.xe _ _ ?_
 unfold leaving
 refine Aa (Bj (outer:=X.outer) (base:=X.base) (L:=X.env.locals) (by rw[←L.stk];exact I.ok.frames) (by rw[←L.stk];exact I.stack) L.fr hn fun h1 T1 z1 z2 z3 z4 z5=>?_)
 refine Oo (xs:=[e]) L I (fun b hb=>?_) (by simp) hx z1 z2 z3 z4 (by rw[L.stk];exact z5) hE
 rw[Db.mp hb];exact⟨.inr rfl,h0⟩
noncomputable def XN(e:Addr)(cls:Value)(dd:Option Addr):HO:= .ext fun h=>ExAt h e cls dd .none
theorem XN.ok(x:ExAt h e cls dd .none):X6 P w H h e (XN e cls dd):=by
 refine⟨x,?_,fun a b y k=>y.at k⟩
 obtain⟨oe,_,h1,_⟩:=x
 exact⟨oe,h1⟩
theorem Zw0{y:V}(I:Inv X pins σ H s)(he:H e=some (XN e (.ref C) none))(S:ExcSet X.K C f)(ry:RelV y u)
  (h:∀dx s',H dx=none→Inv X pins σ (upd (upd H dx (.xd [(f,y)])) e (XN e (.ref C) (some dx))) s'→Q () s'):wpAny (model X.prog X.w) A (setAttr (.ref e) f u) Q E' s:=by
 obtain⟨oe,vs,h1,⟨h2,h3⟩,h4,h5⟩:=(show ExAt s.heap e (.ref C) none .none from(I.hok e _ he).1)
 have nde:s.heap.objs.size≠e:=Nat.ne_of_gt (Aj h1)
 have fr:H s.heap.objs.size=none:=I.hok.fresh (Nat.le_refl _)
 refine Ef I.kIn S h1 h2 h3 h4 fun h' tk' a1 a2 a3=>h s.heap.objs.size _ fr (I.un (t':=tk') ⟨fun b o q n _ _=>?_,fun b o q n _ _=>?_,fun b o q n _=>?_,fun b o q _=>?_,fun b xs q=>?_,fun b o u q=>?_,fun b ps q=>?_⟩ fun b w' q=>?_)
 ·exact a3 b o (fun z=>by rw[z,he] at n;cases n) q
 ·exact⟨o.slots,a3 b o (fun z=>by rw[z,he] at n;cases n) q⟩
 ·rw[Za (fun z=>by rw[z,he] at n;cases n),Za (Nat.ne_of_lt (Aj q))];exact n
 ·by_cases hb:b=e
  ·exact⟨_,by rw[hb];exact a1⟩
  ·exact⟨o,a3 b o hb q⟩
 ·rw[Za (fun z=>by rw[z,he] at q;cases q),Za (fun z=>by rw[z,fr] at q;cases q)];exact q
 ·rw[Za (fun z=>by rw[z,he] at q;cases q),Za (fun z=>by rw[z,fr] at q;cases q)];exact q
 ·exact⟨#[],by rw[Za (fun z=>by rw[z,he] at q;cases q),Za (fun z=>by rw[z,fr] at q;cases q),q];simp⟩
 ·by_cases hb:b=e
  ·subst hb
   rw[Zs] at q
   cases q
   exact XN.ok ⟨_,vs,a1,⟨h2,rfl⟩,h4,h5⟩
  ·rw[Za hb] at q
   by_cases hd:b=s.heap.objs.size
   ·subst hd
    rw[Zs] at q
    cases q
    refine⟨_,a2,fun g=>?_⟩
    by_cases hg:g=f
    ·subst hg
     simp only[Go,beq_self_eq_true,if_true]
     exact ry
    ·have hb:(g==f)=false:=by simpa using hg
     simp only[Go,hb,List.lookup_nil,if_neg hg]
     trivial
   ·rw[Za hd] at q
    refine(I.hok b w' q).stay (fun c v hc r=>a3 c v ?_ r) (fun c z=>?_) fun c xs z=>?_
    ·intro z
     rcases hc with y | y
     ·exact hb (y.symm.trans z)
     ·rw[z,he] at y;cases y
    ·rw[Za (fun y=>by rw[y,he] at z;cases z),Za (fun y=>by rw[y,fr] at z;cases z)];exact z
    ·rw[Za (fun y=>by rw[y,he] at z;cases z),Za (fun y=>by rw[y,fr] at z;cases z)];exact z
end
section
variable{X:Cx}{pos pos':Pos}{o value:Expr}{f:Str}{ta tv:TE}
def sExc(K:Ab)(ta tv:TE)(f:Str):TS:=fun D σ H=>tv σ H fun y H1=>ta σ H1 fun x H2=>∃e C,x= .ref e∧H2 e=some (XN e (.ref C) none)∧ExcSet K C f∧∀dx,H2 dx=none→D.nx σ (upd (upd H2 dx (.xd [(f,y)])) e (XN e (.ref C) (some dx)))
theorem Y52(ha:PE X o ta)(hv:PE X value tv)(hs:swapsWith value (some (.Attribute o f pos')) pos.line X.env=pure false):PS X (.Assign [.Attribute o f pos'] value pos) (sExc X.K ta tv f):=by
 intro pins s σ H D I h
 refine plainObj_wpAny_Assign_Attribute (thn (hv pins s σ H _ I h) fun u s1 ⟨y,H1,I1,ry,q⟩=>thn (ha pins s1 σ H1 _ I1 q) fun ov s2 zz60=>?_) hs
 obtain⟨x,H2,I2,rx,e,C,ex,ee,S,q2⟩:=zz60
 subst ex
 obtain rfl:ov=Value.ref e:=rx
 exact Zw0 I2 ee S ry fun dx s3 hd I3=>⟨σ,_,I3,q2 dx hd⟩
end
structure ExcMk(K:Ab)(C f:Addr):Prop where
 cls:∃nm q N bs bm hdct sn sub ab col dd k0 k1 k2 k3 k5,K.lookup C=some (excClassObj nm q C N bs bm hdct sn sub ab col dd k0 k1 k2 k3 k5 "ValueError.__new__")∧(Value.ref C::bm).contains (.type "ValueError")=true∧
  (Value.ref C::bm).contains (.type "AttributeError")=false∧(Value.ref C::bm).contains (.type "NameError")=false∧(Value.ref C::bm).contains (.type "BaseException")=true
 init:Dx K (.ref C) "__init__"=some (some (.ref f))
 fn:PySem.W.isFn K (.ref f)=true
 kp:Ad K (.ref C)=true
theorem ExcMk.at{K:Ab}(M:ExcMk K C f)(k:K.In h):∃nm q N bs bm hdct sn sub ab col dd k0 k1 k2 k3 k5,ExcCls h C nm q N bs bm hdct sn sub ab col dd k0 k1 k2 k3 k5 "ValueError" "ValueError.__new__":=by
 obtain⟨nm,q,N,bs,bm,hdct,sn,sub,ab,col,dd,k0,k1,k2,k3,k5,h1,h2,h3,h4,h5⟩:=M.cls
 exact⟨nm,q,N,bs,bm,hdct,sn,sub,ab,col,dd,k0,k1,k2,k3,k5,k _ _ h1,h2,h3,h4,h5⟩
section
variable{X:Cx}{k:Nat}{f C:Addr}{fd:FuncData}{ps:List Str}{sp:Sp}{dvs:List V}{ds:List Value}{pins:List (Addr×Obj)}{σ:L2.St}{H:Hp}{s:Shared}{us:List Value}{vs:List V}
theorem Zk4{Q:Addr→Hp→Prop}{E':Value→Shared→Prop}(M:ExcMk X.K C f)(F:FnOk X.prog X.w X.K X.mg X.base CX0 k f fd ps sp)(hr:Room (k+1) X.A)(hb:Zu X.K fd ps ds)(hd:Vals dvs ds)(I:Inv X pins σ H s)(r:Vals vs us)(hz:us.length≤sizeLine)
  (h:∀e,H e=none→sp (.ref e::(vs++dvs)) (upd H e (XN e (.ref C) none)) (fun v H2=>v= .non∧Q e H2) E0):
  wpAny (model X.prog X.w) X.A (call (.ref C) us) (fun u s'=>∃e H',u= .ref e∧Inv X pins σ H' s'∧X.s₀.heap.objs.size≤e∧X.K.In s'.heap∧Q e H') E' s:=by
 obtain⟨nm,q,N,bs,bm,hdct,sn,sub,ab,col,dd,k0,k1,k2,k3,k5,cl⟩:=M.at I.kIn
 have fr:H (s.heap.objs.size+1)=none:=I.hok.fresh (Nat.le_succ _)
 have hq:=h (s.heap.objs.size+1) fr
 have hget:((s.heap.push (G7 us)).push (Pu C s.heap.objs.size)).get? (s.heap.objs.size+1)=some (Pu C s.heap.objs.size):=by heap_get
 have I2:Inv X pins σ (upd H (s.heap.objs.size+1) (XN (s.heap.objs.size+1) (.ref C) none)) {s with heap:=(s.heap.push (G7 us)).push (Pu C s.heap.objs.size)}:=
  I.laid (a:=s.heap.objs.size+1) (t':=s.toks) (fun b u e=>Ae _ (Ae _ e)) (Nat.le_succ _) (XN.ok ⟨_,_,hget,⟨rfl,rfl⟩,rfl,rfl⟩)
 have r2:Vals (V.ref (s.heap.objs.size+1)::(vs++dvs)) (Value.ref (s.heap.objs.size+1)::(us++ds)):= .cons rfl (r.append hd)
 have hl:(Value.ref (s.heap.objs.size+1)::us++ds).length=ps.length:=by
  have e:=r2.length
  rw[F.len _ _ _ _ hq] at e
  exact e.symm
 have s0:X.s₀.heap.objs.size≤s.heap.objs.size+1:=Nat.le_trans I.sz (Nat.le_succ _)
 refine Lo ?_
 have hi:=PySem.W.looks_findIn (M:=model X.prog X.w) I.kIn M.init
 have hbd:=fun self=>PySem.W.bind_fn (M:=model X.prog X.w) I.kIn self (beq_iff_eq.mp M.fn)
 obtain⟨hh,g,d,t,os⟩:=s
 refine Zg0 PySem.F.excBase_ValueError cl hi hbd (Ix (F.run _ X.stack _ _ ⟨Value.ref (hh.objs.size+1)::us,[]⟩ (Value.ref (hh.objs.size+1)::(us++ds)) _ _ E0 (hr.make C us []) (I2.env0.make C us []) (hb _ (Value.ref (hh.objs.size+1)::us) I2.kIn hl) r2 hq) fun rr s' hq'=>?_) hz
 cases rr with
 | error e=>exact De hq'
 | ok fl=>
  cases fl with
  | ret u=>
   obtain⟨v,H',I3,rv,ev,q3⟩:=I2.after hq'
   subst ev
   exact⟨rv,hh.objs.size+1,H',rfl,I3,s0,I3.kIn,q3⟩
  | next=>exact De hq'
  | brk=>exact De hq'
  | cont=>exact De hq'
theorem Py{E:Value→Shared→Prop}{s:Shared}{x:Sem Value}(hh:A.handled=none)
  (h:wpAny M A x (fun v s1=>∃(e:Addr) (nm q:Str) (N:Addr) (bs bm:List Value) (hdct:Bool) (sn:List Str) (sub:List Value) (ab:Bool) (col:Option Bool) (dd:Option Addr) (k0 k1 k2 k3 k5:Option Value) (dx:Option Addr),
   v= .ref e∧ExcCls s1.heap C nm q N bs bm hdct sn sub ab col dd k0 k1 k2 k3 k5 "ValueError" "ValueError.__new__"∧ExAt s1.heap e (.ref C) dx .none∧E (.ref e) s1) E s):
  wpAny M A (raiseStmt env (some x) none) Q E s:=by
 unfold raiseStmt
 refine Aa (Dv h (fun v s1 h1=>?_) fun _ _ z=>z)
 obtain⟨e,nm,q,N,bs,bm,hdct,sn,sub,ab,col,dd,k0,k1,k2,k3,k5,dx,rfl,cl,⟨oe,vs,he,⟨hc,hdd⟩,hd,h1⟩,hE⟩:=h1
 obtain⟨hC,_,_,_,hcB⟩:=cl
 obtain⟨hp,g,d,tk,os⟩:=s1
 obtain⟨c,dc,dt,sl⟩:=oe
 dsimp only at hc hdd hd
 subst hc hdd hd
 repeat (first | with_reducible refine Im he ?_ | with_reducible refine Im hC ?_ | (with_reducible refine Kw hC ?_;rw[hcB]) | wp_step)
 rw[h1]
 refine Ag ?_
 rw[if_neg (by decide)]
 exact Ag (wpAny_raiseNew_none hh hE)
def Zq4(C:Addr)(sp:Sp)(dvs:List V)(E:XK)(t:TA):TS:=fun _ σ H=>t σ H fun vs H1=>vs.length≤8∧∀e,H1 e=none→sp (.ref e::(vs++dvs)) (upd H1 e (XN e (.ref C) none)) (fun v H2=>v= .non∧∃dd,H2 e=some (XN e (.ref C) dd)∧E (.ref C) dd (upd H2 e (XO e (.ref C) dd))) E0
theorem B3{E:XK}{vs:List V}(L:Leaves X E)(M:ExcMk X.K C f)(F:FnOk X.prog X.w X.K X.mg X.base CX0 k f fd ps sp)(hr:Room (k+1) X.A)(hb:Zu X.K fd ps ds)(hd:Vals dvs ds)(I:Inv X pins σ H s)(r:Vals vs us)(hz:vs.length≤8)
  (h:∀e,H e=none→sp (.ref e::(vs++dvs)) (upd H e (XN e (.ref C) none)) (fun v H2=>v= .non∧∃dd,H2 e=some (XN e (.ref C) dd)∧E (.ref C) dd (upd H2 e (XO e (.ref C) dd))) E0):
  wpAny (model X.prog X.w) X.A (call (.ref C) us) (fun v s1=>∃(e:Addr) (nm q:Str) (N:Addr) (bs bm:List Value) (hdct:Bool) (sn:List Str) (sub:List Value) (ab:Bool) (col:Option Bool) (dd:Option Addr) (k0 k1 k2 k3 k5:Option Value) (dx:Option Addr),
   v= .ref e∧ExcCls s1.heap C nm q N bs bm hdct sn sub ab col dd k0 k1 k2 k3 k5 "ValueError" "ValueError.__new__"∧ExAt s1.heap e (.ref C) dx .none∧X.xe (.ref e) s1) X.xe s:=by
 refine thn (Zk4 (Q:=fun e H2=>∃dd,H2 e=some (XN e (.ref C) dd)∧E (.ref C) dd (upd H2 e (XO e (.ref C) dd))) M F hr hb hd I r (by rw[←r.length];exact Nat.le_trans hz (by decide)) h) fun v s1 zz61=>?_
 obtain⟨e,H',ev,I',s0,kin,dd',he,hE⟩:=zz61
 obtain⟨nm,q,N,bs,bm,hdct,sn,sub,ab,col,dd,k0,k1,k2,k3,k5,cl⟩:=M.at kin
 have x:ExAt s1.heap e (.ref C) dd' .none:=(I'.hok e _ he).1
 have I2:Inv X pins σ (upd H' e (XO e (.ref C) dd')) {s1 with heap:=s1.heap,toks:=s1.toks}:=
  I'.write (x:=e) (e:=e) (by rw[he];exact Dy) (.inl rfl) (fun _ _ _ z=>z) (by obtain⟨oe,_,z,_⟩:=x;exact⟨oe,z⟩) (XO.ok x)
 exact⟨e,nm,q,N,bs,bm,hdct,sn,sub,ab,col,dd,k0,k1,k2,k3,k5,dd',ev,cl,x,Y87 L I2 Zs x s0 hE⟩
theorem Z83{E:XK}{x:Str}(L:Leaves X E)(hc:X.calm=true)(M:ExcMk X.K C f)(F:FnOk X.prog X.w X.K X.mg X.base CX0 k f fd ps sp)(hr:Room (k+1) X.A)(hb:Zu X.K fd ps ds)(hd:Vals dvs ds)(hg:Gl X x)(hm:X.mg x=some (.ref C))
  (hdb:(x==("__debug__":Str))=false:=by decide):PS X (.Raise (some (.Call (.Name x np) [] [] cpos)) none pos) (Zq4 C sp dvs E tNil):=by
 intro pins s σ H D I h
 obtain⟨hz,h⟩:=h
 rw[arm_exec_Raise]
 simp only[evalOpt,Option.map]
 refine Aa (Kh (Py (C:=C) (I.ok.hd hc) ?_))
 refine Aa (Dv (Q:=fun v s1=>∃(e:Addr) (nm q:Str) (N:Addr) (bs bm:List Value) (hdct:Bool) (sn:List Str) (sub:List Value) (ab:Bool) (col:Option Bool) (dd:Option Addr) (k0 k1 k2 k3 k5:Option Value) (dx:Option Addr),
   v= .ref e∧ExcCls s1.heap C nm q N bs bm hdct sn sub ab col dd k0 k1 k2 k3 k5 "ValueError" "ValueError.__new__"∧ExAt s1.heap e (.ref C) dx .none∧X.xe (.ref e) s1) ?_ (fun v s1 z=>Aa (Kh (Ag z))) fun _ _ z=>z)
 refine Hs (Vs I hg hm ?_ hdb)
 exact PySem.W.callWith_K0 I.kIn M.kp (B3 (us:=[]) L M F hr hb hd I .nil hz h)
end
end L3
namespace L3
open PySem PySem.W PySem.Calls PyProof.Rows Builtin Builtin.ObjectAttr
section
variable{prog:Program}{w:World}{A:Around}{E:Value→Shared→Prop}{K:Frag}{C D e:Addr}{s:Shared}
structure ExcIs(K:Frag)(C:Addr):Prop where
 cls:∃cd,clsIn K C=some cd∧cd.hasDict=true
 ga:findIn K (.ref C) "__getattribute__"=some (some (.builtin "BaseException.__getattribute__"))
 gh:findIn K (.ref C) "__getattr__"=some none
 base:mroIn K C (.type "BaseException")=some true
 own:findIn K (.ref C) "__class__"=some (some (.builtin "object.__class__"))
 ds:specialIn K (.builtin "object.__class__") "__get__"=some (some (.builtin "getset_descriptor.__get__"))
 tk:takesIn K (.builtin "object.__class__")=some true
 obj:mroIn K C (.type "object")=some true
theorem Zb4(X:K.In s.heap)(S:ExcIs K C)(J:InstAt s.heap e oe C (some od))(h:Q (some (.ref C)) {s with toks:=s.toks+1}):
  wpAny (model prog w) A (getAttr? (.ref e) "__class__") Q E s:=by
 obtain⟨⟨cd,hcd,hdict⟩,hga,hgh,hbase,hown,hds,htk,hobj⟩:=S
 obtain⟨hp,g,d,t,os⟩:=s
 have hf:findObj K C (some od) "__class__"=some (.bind (.builtin "getset_descriptor.__get__") (.builtin "object.__class__")):=findObj_data (by rw[hcd];rfl) hown hds htk
 have L0:=J.type (M:=model prog w)
 have L1:=looks_findIn (M:=model prog w) X hga
 have L2:=looks_findIn (M:=model prog w) X hgh
 have L3':=looks_find (M:=model prog w) X J hf
 have sub:Looks (model prog w) hp (isInstance (.ref e) (.type "BaseException")) true:=L0.andThen (looks_mroIn X hbase)
 unfold getAttr? getAttrBy? getAttrBy
 refine Aa (wpAny_mkText (Aa (wpAny_attempt (Kg (Aa (L0.at (Aa (L1.at ?_))))))))
 show wpAny _ _ (getAttrByItsOwn _ _ _ _ _ _) _ _ _
 unfold getAttrByItsOwn
 refine Aa (L2.at (Aa (wpAny_attempt (Kg ?_))))
 unfold callGetattribute
 rw[if_neg (by decide)]
 unfold boundAndCalled
 rw[Zz4]
 refine Aa (Ag (Lo ?_))
 refine codeAny_call_builtin Zp1 F.entry_bexc_ga (@check_slot (model prog w) _ _ _ "BaseException.__getattribute__" "BaseException" "__getattribute__" (.ref e) [.str "__class__" t] [] _ Zw8 Zi6 sub (Zv0 (.ref e) (.str "__class__" t)) ?_)
 show wpAny _ _ (typeOf (.ref e) >>=fun tp=>find (.ref e) tp "__class__" >>=_) _ _ _
 refine Aa (L0.at (Aa (L3'.at ?_)))
 have hcall:=class_get (prog:=prog) (w:=w) (A:=A.in1) (s:=⟨hp,g,d,t+1,os⟩) (tp:= .ref C) (R:=fun r s'=>r= .ok (.ret (.ref C))∧s'=⟨hp,g,d,t+1,os⟩) X J hobj ⟨rfl,rfl⟩
 unfold bindTo
 refine Aa (Kg (Lo (Ix hcall fun r s' z=>?_)))
 obtain⟨rfl,rfl⟩:=z
 refine Ag ?_
 show wpAny _ _ (handedOut (.ref C)) _ _ _
 exact handed_on rfl (Ag h)
end
end L3
namespace L3
open PySem PySem.Spec PyProof.Rows L2
section
variable{K:Ab}{C e:Addr}
theorem C3(S:ExcIs K C):PySem.W.KitX K (.ref e) (.ref C) (fun h=>PySem.W.InstAt h e oe C (some od)) where
 ty:=fun _ _ _ I=>I.type
 it:=fun _ _ X _=>by
  obtain⟨cd,hcd,_⟩:=S.cls
  unfold Lj at hcd
  split at hcd
  ·rename_i ho
   intro A' Q' E' s' k q
   unfold isType loadHead
   exact Aa (wpAny_loadPart (k _ _ (X _ _ ho)) (Ag q))
  ·cases hcd
 ne:=fun h tp dd its n sl X htp=>by
  obtain⟨cd,hcd,_⟩:=S.cls
  refine Bool.eq_false_iff.mpr fun q=>?_
  have z:C=tp:=Value.ref.inj (beq_iff_eq.mp q)
  subst z
  unfold Lj at hcd
  split at hcd
  ·rename_i ho
   have y:=(X _ _ ho).symm.trans htp
   cases y
  ·cases hcd
 ca:=fun X I k=>Zb4 X S I k
variable{X:Cx}{pins:List (Addr×Obj)}{σ:L2.St}{H:Hp}{s:Shared}{dx:Addr}{fs:List (Str×V)}
theorem Bd(I:Inv X pins σ H s)(he:H e=some (XO e (.ref C) (some dx)))(hd:H dx=some (.xd fs)):∃(oe od:Obj) (mA:Str→Option Value),PySem.W.InstAt s.heap e oe C (some od)∧(∀name,PySem.W.lookIn name od=some (mA name))∧∀f,RelO (fs.lookup f) (mA f):=by
 obtain⟨tb,oe,vs,h1,⟨h2,h3⟩,h4,_⟩:=XO.at (I.hok e _ he)
 obtain⟨mA,hn,hr⟩:=(show X6 X.prog X.w H s.heap dx (.xd fs) from I.hok dx _ hd)
 obtain⟨od,q1,q2⟩:=Jo hn
 refine⟨oe,od,mA,⟨h1,h2,by unfold PySem.W.notCls;rw[h4],by rw[h3];exact q1⟩,q2,hr⟩
def rIsX(K:Ab):List V→Hp→VK→Prop:=fun xs H Q=>∃e C dx fs c cv b,xs=[.ref e,c]∧H e=some (XO e (.ref C) (some dx))∧H dx=some (.xd fs)∧ExcIs K C∧(∀u,RelV c u→u=cv)∧Hf K (.ref C) cv=some b∧Q (.bl b) H
theorem C9:Tw X (.builtin "isinstance") (rIsX X.K):=by
 intro pins s σ H xs us Q I r h
 obtain⟨e,C,dx,fs,c,cv,b,rfl,he,hd,S,hc,k,q⟩:=h
 obtain⟨u,v,rfl,ru,rv⟩:=Ni r
 obtain rfl:u=Value.ref e:=ru
 cases hc v rv
 obtain⟨oe,od,mA,J,_⟩:=Bd I he hd
 exact Hi (C3 S) I.kIn J k (fun z=>nomatch z) fun tk=>⟨.bl b,H,I.tok tk,rfl,q⟩
end
def XP(X:Cx)(pins:List (Addr×Obj))(σ:L2.St)(E:XK)(x:Value)(s':Shared):Prop:=∃(e T:Addr) (cls:Value) (dd:Option Addr) (H':Hp),x= .ref e∧Inv X pins σ H' s'∧FpOk X pins H' T∧T≠e∧H' e=some (XO e cls dd)∧
 ExAt s'.heap e cls dd (.ref T)∧TbAt s'.heap T .none∧E cls dd H'
abbrev TEX:=L2.St→Hp→VK→XK→Prop
abbrev TSX:=Ends→XK→L2.St→Hp→Prop
def PEX(X:Cx)(e:Expr)(t:TEX):Prop:=
 ∀(pins:List (Addr×Obj)) (s:Shared) (σ:L2.St) (H:Hp) (Q:VK) (E:XK),Inv X pins σ H s→t σ H Q E→wpAny (model X.prog X.w) X.A (eval e X.env) (EP X pins σ Q) (XP X pins σ E) s
def PSX(X:Cx)(st:List Stmt)(t:TSX):Prop:=
 ∀(pins:List (Addr×Obj)) (s:Shared) (σ:L2.St) (H:Hp) (D:Ends) (E:XK),Inv X pins σ H s→t D E σ H→wpAny (model X.prog X.w) X.A (execs st X.env) (SP X pins D) (XP X pins σ E) s
section
variable{X:Cx}{k:Nat}{f:Addr}{fd:FuncData}{ps:List Str}{sp:Sp}{dvs:List V}{ds:List Value}{x:Str}{p pos:Pos}{e:Expr}{es:List Expr}{t:TA}
theorem Ya3{s s':Shared}{E:XK}{x:Value}(I:Inv X pins σ H s)(h:CX1 X.prog X.w X.stack H s E x s'):XP X pins σ E x s':=by
 obtain⟨ea,T,cls,dd,H',eq,os,bare,un,hok,⟨f1,f2⟩,g1,⟨g2,g3⟩,x1,t1,hE⟩:=h
 have J:Inv X pins σ H' s':=I.call' (ch:=[]) os un hok bare fun b z=>absurd z (by simp)
 exact⟨ea,T,cls,dd,H',eq,J,I.fpOk f2 g2,g3,g1,x1,t1,hE⟩
def Zq6(sp:Sp)(dvs:List V)(t:TA):TEX:=fun σ H Q E=>t σ H fun vs H1=>sp (vs++dvs) H1 Q E
theorem Zo2(F:FnOk X.prog X.w X.K X.mg X.base (CX1 X.prog X.w) k f fd ps sp)(hr:Room k X.A)(hg:Gl X x)(hm:X.mg x=some (.ref f))(hk:Ad X.K (.ref f)=true)(hb:Zu X.K fd ps ds)(hd:Vals dvs ds)
  (ha:PA X.nox (e::es) t) (hdb:(x==("__debug__":Str))=false:=by decide) (he:starEach (e::es) X.env=(false,eval e X.env)::starEach es X.env:=by rfl) (hpl:(backTo pos (starEach es X.env)).any (·.1)=false:=by rfl):
  PEX X (.Call (.Name x p) (e::es) [] pos) (Zq6 sp dvs t):=by
 intro pins s σ H Q E I h
 refine Hs (Vs I hg hm ?_ hdb)
 refine PySem.W.callWith_K (h₀:=X.base) I.ok.mod.kin hk (Dv (ha pos pins s σ H _ (I.wish _) h) (fun us s1 zz62=>?_) fun _ _ z=>z.elim) he hpl
 obtain⟨vs,H1,I1,r,q⟩:=zz62
 have I2:Inv X pins σ H1 s1:=I1.unwish
 refine⟨I2.kIn,?_⟩
 have r2:Vals (vs++dvs) (us++ds):=r.append hd
 have hl:(us++ds).length=ps.length:=by rw[←r2.length];exact F.len _ _ _ _ q
 refine Lo (Ix (F.run X.A X.stack s1 H1 ⟨us,[]⟩ (us++ds) (vs++dvs) Q E hr I2.env0 (hb s1 us I2.kIn hl) r2 q) fun rr s' hq=>?_)
 cases rr with
 | error z=>exact Ya3 I2 hq
 | ok fl=>
  cases fl with
  | ret u=>exact I2.after hq
  | next=>exact De hq
  | brk=>exact De hq
  | cont=>exact De hq
variable{te:TEX}
def Y95(te:TEX):TSX:=fun D E σ H=>te σ H (fun _ H1=>D.nx σ H1) E
theorem Zi5(he:PEX X e te)(hs:swapsWith e none pos.line X.env=pure false:=by rfl):PSX X [.Expr e pos] (Y95 te):=by
 intro pins s σ H D E I h
 refine wpAny_execs_cons (wpAny_Expr_any (thn (he pins s σ H _ E I h) fun u s1 h1=>?_) I.quiet hs)
 obtain⟨v,H1,I1,r,q⟩:=h1
 exact La ⟨σ,H1,I1,q⟩
def Yf7(te:TEX):TSX:=fun D E σ H=>te σ H D.rt E
theorem Y01(he:PEX X e te):PSX X [.Return (some e) pos] (Yf7 te):=by
 intro pins s σ H D E I h
 refine wpAny_execs_cons (wpAny_Return_some (thn (he pins s σ H _ E I h) fun u s1 h1=>?_))
 obtain⟨v,H1,I1,r,q⟩:=h1
 exact⟨v,σ,H1,I1,r,q⟩
def Ye5(te:TEX)(i:Nat):TSX:=fun D E σ H=>te σ H (fun y H1=>D.nx (σ.set i (some y)) H1) E
theorem Y03{i:Nat}{x:Str}(hN:X.N.Nodup)(hi:X.N[i]?=some x)(hx:Loc X.env.scope x)(he:PEX X e te)(hs:swapsWith e (some (.Name x pos')) pos.line X.env=pure false:=by rfl)(hf:X.fn x=true∨X.env.scope.names.lookup x=some .local:=by first | exact .inl rfl | exact .inr rfl | assumption):
  PSX X [.Assign [.Name x pos'] e pos] (Ye5 te i):=by
 intro pins s σ H D E I h
 refine wpAny_execs_cons (wpAny_Assign_Name (thn (he pins s σ H _ E I h) fun v s1 h1=>?_) hs)
 obtain⟨y,H1,I1,r1,q1⟩:=h1
 exact B4 I1 hN hi hx r1 (fun s2 I2=>La ⟨_,H1,I2,q1⟩) hf
end
noncomputable def Held(X:Cx)(e:Addr):Cx:={X with A:=X.A.mark (some (.ref e)),calm:=false,xe:=fun _ _=>False}
section
variable{X:Cx}{pins:List (Addr×Obj)}{σ:L2.St}{H:Hp}{s:Shared}{e:Addr}
theorem Y15(ok:X.Ok)(e:Addr):(Held X e).Ok:=
 ⟨ok.mod,ok.kind,ok.glob,ok.blt,ok.above,ok.inj,ok.has,ok.cab,(fun z=>nomatch z),ok.frames,ok.stk,ok.exf,ok.bs,ok.bsz,ok.noex,ok.exfs,ok.funs,ok.frf⟩
theorem Zv8(I:Inv X pins σ H s)(e:Addr):Inv (Held X e) pins σ H s:=⟨Y15 I.ok e,I.os,I.bare,I.base,I.loc,I.cell,I.free,I.freeC,I.pin,I.hok,I.len⟩
theorem Q1(ok:X.Ok)(I:Inv (Held X e) pins σ H s):Inv X pins σ H s:=⟨ok,I.os,I.bare,I.base,I.loc,I.cell,I.free,I.freeC,I.pin,I.hok,I.len⟩
theorem Zj8(I:Inv X pins σ H s)(ft:FpOk X pins H T)(he:H e=some (XO e cls dd))(x1:ExAt h1 e cls dd (.ref T1))(fl:Flown (frsE X.stack) [e,T] s.heap h1):
  Inv X pins σ H {s with heap:=h1}:=by
 obtain⟨f0,f1,f2,f3,f4,f5⟩:=ft
 have ne:∀b,H b=none→b≠e:=fun b n z=>by rw[z,he] at n;cases n
 have hk:∀b o,b∉frsE X.stack→b≠T→b≠e→s.heap.get? b=some o→h1.get? b=some o:=fun b o z1 z2 z3 q=>fl.keep b o q z1 (by simp[z2,z3])
 have hs:∀b o,b≠T→b≠e→s.heap.get? b=some o→∃sl,h1.get? b=some {o with slots:=sl}:=fun b o z2 z3 q=>by
  by_cases z1:b∈frsE X.stack
  ·exact fl.slot b o q z1 (by simp[z2,z3])
  ·exact⟨o.slots,hk b o z1 z2 z3 q⟩
 refine I.step (g':=s.gens) (t':=s.toks) (d':=s.drawn) (ch:=[T]) (fun b hb=>?_) (fun b o z1 z2 z3 q n=>hk b o (fun z=>?_) (by simpa using z3) (ne b n) q) (fun b o _ _ z3 q n=>hs b o (by simpa using z3) (ne b n) q) (fun _ _ _ _ n=>n)
  (fun b o _ q=>fl.there b o q) (fun _ _ q=>q) (fun _ _ _ q=>q) (fun _ ps q=>⟨#[],by rw[q];simp⟩) (fun m hm=>?_) ?_ I.bare
 ·rw[Db.mp hb]
  exact⟨f3,f1,f4,f5⟩
 ·rcases Aw.mp (I.stkSub b z) with y | y
  ·exact z1 y
  ·exact z2 y
 ·obtain⟨o,es,ep,ho,r⟩:=hm
  obtain⟨sl,q⟩:=hs _ o (Ch f1) (ne _ I.free) ho
  exact⟨_,es,ep,q,r⟩
 ·refine Jl I.hok he x1 fun b u o q hb r=>hk b o (fun z=>?_) (fun z=>?_) hb r
  ·rw[I.stkFree b z] at q;cases q
  ·rw[z,f0] at q;cases q
theorem Cd(I:Inv X pins σ H s)(ft:FpOk X pins H T1)(k:∀b o,b≠T1→s.heap.get? b=some o→h2.get? b=some o):Inv X pins σ H {s with heap:=h2}:=by
 obtain⟨f0,f1,f2,f3,f4,f5⟩:=ft
 exact I.turned (t':=s.toks) k f0 f1 f3 f4 f5
end
structure Catch(K:Ab)(C D:Addr)(b:Bool):Prop where
 ty:PySem.W.typeIn K (.ref D)=some (.type "type")
 cls:(Lj K D).isSome=true
 exc:Kf K D (.type "BaseException")=some true
 sub:Kf K C (.ref D)=some b
section
open PySem.W
theorem Ea{E:Value→Shared→Prop}{K:Frag}{C D e:Addr}{s:Shared}(X:K.In s.heap)(S:Catch K C D b)(he:s.heap.get? e=some oe)(hc:oe.cls= .ref C)(h:Q b s):
  wpAny (model prog w) A (excMatches (.ref e) (.ref D)) Q E s:=by
 obtain⟨ht,hD,hB,hs⟩:=S
 obtain⟨hp,g,d,t,os⟩:=s
 have L1:Looks (model prog w) hp (typeOf (.ref D)) (.type "type"):=looks_typeIn X ht
 have L2:Looks (model prog w) hp (isType (.ref D)) true:=by
  unfold clsIn at hD
  split at hD
  ·rename_i ho
   intro A' Q' E' s' k q
   unfold isType loadHead
   exact Aa (wpAny_loadPart (k _ _ (X _ _ ho)) (Ag q))
  ·cases hD
 have L3:Looks (model prog w) hp (isSubtype (.ref D) (.type "BaseException")) true:=looks_mroIn X hB
 have L4:Looks (model prog w) hp (typeOf (.ref e)) (.ref C):=by rw[←hc];exact(Looks.ld he).andThen .now
 have L5:Looks (model prog w) hp (isSubtype (.ref C) (.ref D)) b:=looks_mroIn X hs
 unfold excMatches isInstance
 refine Aa (Aa (L1.at ?_))
 rw[tc_notTuple]
 refine Ag ?_
 simp only[Bool.false_eq_true,if_false]
 refine Aa (Ag ?_)
 rw[Ld]
 refine Aa (Aa ?_)
 unfold isExcClass
 refine Aa (Aa (L2.at ?_))
 simp only[if_true]
 refine L3.at ?_
 simp only[Bool.not_true,Bool.false_eq_true,if_false]
 refine Ag ?_
 show wpAny _ _ (pure PUnit.unit) _ _ _
 refine Ag ?_
 refine Aa (L4.at (Aa ?_))
 rw[Ld]
 refine Aa (Aa (L5.at ?_))
 cases b with
 | true=>
  simp only[if_true]
  exact Ag (Ag (Ag h))
 | false=>
  simp only[Bool.false_eq_true,if_false]
  refine Ag ?_
  show wpAny _ _ (pure (none,PUnit.unit)) _ _ _
  exact Ag (Ag h)
end
section
variable{X:Cx}{body suite:List Stmt}{b₀:Stmt}{x n:Str}{np hpos pos:Pos}{D:Addr}{i:Nat}{tb:TSX}{ts:TS}
theorem Zy6{P:Program}{w:World}{K:Ab}{mg:Str→Option Value}{base:Heap}{x qual:Str}{st:Stmt}{f:Addr}{fd:FuncData}{N ps:List Str}{k:Nat}{sp:Sp}(F:Fun K x qual st f fd)(S:FnScope N ps (Z1 st))(len:∀vs H Q E,sp vs H Q E→vs.length=ps.length)
  (hbody:∀(cdv:Value) (A:Around) (outer:List Env) (s:Shared) (H:Hp) (vs:List V) (Q:VK) (E:XK),Room k (A.deeper (envOfC qual (Z1 st) s.heap.objs.size f cdv))→sp vs H Q E→
   ∃t,PSs (cxOf (CX1 P w) P w K mg base N qual (Z1 st) f cdv A outer s H E) (Z4 st) t∧t {nx:=fun _ H'=>Q .non H',rt:=Q} (start N vs) H):FnOk P w K mg base (CX1 P w) (k+1) f fd ps sp:=by
 obtain⟨oc,od,dV,kV,doc,pm,an,cdv,ct,osl,rfl,lk,hcd⟩:=F.ex
 exact Zt9 lk hcd S len fun A outer s H vs Q E hr hsp=>hbody cdv A outer s H vs Q E hr hsp
end
end L3
namespace L3
open PySem PyProof.Rows
section
variable{prog:Program}{w:World}{A:Around}{E:Value→Shared→Prop}{s:Shared}
abbrev Zs4(h:Heap)(z TI TO:Addr)(f0:Value)(b:Bool):Prop:=
 h.get? z=some {cls:= .type "zip",dict:=none,data:= .fields #[f0,.bool b,.bool false,.ref TI,.ref TO],slots:=#[]}
end
section
variable{prog:Program}{w:World}{A:Around}{E:Value→Shared→Prop}{s:Shared}
structure ZS(h0 h:Heap)(S z TI TO i1 i2 l1 l2:Addr)(xs ys:Array Value)(Ts:List Addr):Prop where
 kept:∀b o,h0.get? b=some o→h.get? b=some o
 zp:(Ts=[]∧Zs4 h z TI TO .none false∧∃a b,IsPair h TO a b)∨∃(T:Addr) (b:Bool) (oT:Obj),Zs4 h z TI TO (rawInt T) b∧h.get? T=some oT
 ti:IsPair h TI (.ref i1) (.ref i2)
 to:∃o,h.get? TO=some o
 t1:h.IsListIter i1 l1 Ts.length
 t2:h.IsListIter i2 l2 Ts.length
 nd:Ts.Nodup
 tp:∀(j:Nat) T,Ts[j]?=some T→∃x y,xs[j]?=some x∧ys[j]?=some y∧IsPair h T x y
 tb:∀T∈Ts,h0.objs.size≤T∧T≠z∧T≠TO∧T≠i1∧T≠i2∧T≠S
structure ZF(h0:Heap)(S z TI TO i1 i2 l1 l2:Addr)(xs ys:Array Value):Prop where
 D:ZipApart z TI TO i1 i2 l1 l2
 l1:h0.IsList l1 xs
 l2:h0.IsList l2 ys
 nz:h0.objs.size≤z
 nTO:h0.objs.size≤TO
 n1:h0.objs.size≤i1
 n2:h0.objs.size≤i2
 nS:h0.objs.size≤S
 sz:S≠z
 sTI:S≠TI
 sTO:S≠TO
 s1:S≠i1
 s2:S≠i2
end
structure ZEnd(h0 h:Heap)(S:Addr)(xs ys:Array Value)(Ts:List Addr):Prop where
 kept:∀b o,h0.get? b=some o→h.get? b=some o
 len:Ts.length=min xs.size ys.size
 nd:Ts.Nodup
 tp:∀(j:Nat) T,Ts[j]?=some T→∃x y,xs[j]?=some x∧ys[j]?=some y∧IsPair h T x y
 tb:∀T∈Ts,h0.objs.size≤T∧T≠S
 so:∃c,h.get? S=some {cls:= .type "list",dict:=none,data:= .seq (Ts.map Value.ref).toArray c,slots:=#[]}
end L3
namespace L3
open PySem PySem.Spec PyProof.Rows L2
section
variable{X:Cx}
noncomputable def eqVs(vs ys:List V):Bool:=(Hz (min vs.length ys.length)).all (fun j=>eqV (vs.getD j .non) (ys.getD j .non))&&vs.length==ys.length
noncomputable def eqUT(H:Hp)(ys:List V):Value→Bool
 | .ref a=>match H a with
  | some (.tup vs)=>eqVs vs ys
  | _=>false
 | _=>false
theorem Zj7{x:V}(h:Ws x=true):eqV x x=true:=by
 cases x<;>first | rfl | (simp[eqV];done) | exact absurd (show false=true from h) Bool.false_ne_true
theorem Ze2(h:xs.all Ws=true):eqVs xs xs=true:=by
 unfold eqVs
 rw[Bool.and_eq_true,Hy]
 refine⟨fun j hj=>?_,by simp⟩
 rw[Lm] at hj
 have hl:j<xs.length:=by omega
 rw[Hy] at h
 rw[Hv,Ai hl]
 exact Zj7 (h _ (Ht hl))
theorem Yb3{s:Shared}(I:Inv X pins σ H s)(hu:A.units+2<cLine){a b:Addr}(ha:H a=some (.tup vs))(hb:H b=some (.tup ys))(fa:vs.all Ws=true)(fb:ys.all Ws=true):Dt A s (.ref a) (.ref b) (eqVs vs ys):=by
 by_cases e:a=b
 ·subst e
  rw[ha] at hb
  cases hb
  rw[Ze2 fa]
  exact Dt.same _
 ·obtain⟨us,ru,ta,_⟩:=I.tuple (.of ha)
  obtain⟨ws,rw',tb,_⟩:=I.tuple (.of hb)
  have l1:=ru.length
  have l2:=rw'.length
  have key:=SeqAt.RcAt.tuples (A:=A) (e:=fun j=>eqV (vs.getD j .non) (ys.getD j .non)) ta tb (by omega) (fun j h1 h2=>by
   have j1:j<vs.length:=by rw[Ak] at h1;omega
   have j2:j<ys.length:=by rw[Ak] at h2;omega
   obtain⟨u,e1,r1⟩:=ru.get (Ai j1)
   obtain⟨w,e2,r2⟩:=rw'.get (Ai j2)
   have x1:us.toArray[j]=u:=by have:=(Af.mp e1).2;simpa using this
   have x2:ws.toArray[j]=w:=by have:=(Af.mp e2).2;simpa using this
   rw[x1,x2,Hv,Hv,Ai j1,Ai j2]
   rw[Hy] at fa fb
   exact Ba r1 r2 (fa _ (Ht j1)) (fb _ (Ht j2)))
  have hs:((Hz (min us.toArray.size ws.toArray.size)).all (fun j=>eqV (vs.getD j .non) (ys.getD j .non))&&us.toArray.size==ws.toArray.size)=eqVs vs ys:=by
   unfold eqVs
   rw[Ak,Ak,l1,l2]
  rw[hs] at key
  exact Dt.of_refs e key
theorem Y13{s:Shared}{a b:Addr}(I:Inv X pins σ H s)(k:∀c o,c≠a→c≠b→s.heap.get? c=some o→h'.get? c=some o)(fa:FpOk X pins H a)(fb:FpOk X pins H b):Inv X pins σ H {s with heap:=h',toks:=t'}:=by
 have na:∀c u,H c=some u→c≠a:=by
  intro c u e z
  rw[z,fa.1] at e
  cases e
 have nb:∀c u,H c=some u→c≠b:=by
  intro c u e z
  rw[z,fb.1] at e
  cases e
 have kk:∀c o,c∉[a,b]→s.heap.get? c=some o→h'.get? c=some o:=by
  intro c o hc e
  refine k c o ?_ ?_ e
  ·intro z;apply hc;rw[z];simp
  ·intro z;apply hc;rw[z];simp
 refine I.step (ch:=[a,b]) (g':=s.gens) (d':=s.drawn) ?_ ?_ ?_ ?_ ?_ ?_ ?_ ?_ ?_ ?_ I.bare
 ·intro c hc
  have:c=a∨c=b:=by simpa using hc
  rcases this with rfl | rfl
  ·exact⟨fa.2.2.2.1,fa.2.1,fa.2.2.2.2.1,fa.2.2.2.2.2⟩
  ·exact⟨fb.2.2.2.1,fb.2.1,fb.2.2.2.2.1,fb.2.2.2.2.2⟩
 ·intro c o _ _ hc e _;exact kk c o hc e
 ·intro c o _ _ hc e _;exact⟨o.slots,kk c o hc e⟩
 ·intro _ _ _ _ n;exact n
 ·intro c o hc e;exact⟨o,kk c o hc e⟩
 ·intro _ _ e;exact e
 ·intro _ _ _ e;exact e
 ·intro c ps e;exact⟨#[],by rw[e];simp⟩
 ·rintro m ⟨o,es,ep,ho,r⟩
  exact⟨o,es,ep,k _ o (Ch fa.2.1) (Ch fb.2.1) ho,r⟩
 ·intro c u e
  refine(I.hok c u e).stay ?_ (fun _ q=>q) fun _ _ q=>q
  intro d v hd q
  rcases hd with z | z
  ·subst z;exact k d v (na d u e) (nb d u e) q
  ·exact k d v (na d _ z) (nb d _ z) q
noncomputable def Ite(K:Ab)(a:Addr):It:=
 ⟨fun i H=>∃xs x,SqL K H a xs∧xs[i]?=some x,fun i H x H'=>∃p y,H p=none∧H'=upd H p (.tup [.int i,y])∧x= .ref p∧∀xs,SqL K H a xs→xs[i]?=some y,fun i H=>∃xs,SqL K H a xs∧xs.length≤i⟩
theorem Sv{h:Heap}{o u:Obj}{b:Addr}(e:(h.push o).get? b=some u):h.get? b=some u∨b=h.objs.size:=by
 by_cases hb:b=h.objs.size
 ·exact .inr hb
 ·refine .inl ?_
  have hl:=Aj e
  rw[Ia] at hl
  obtain⟨e1,e2⟩:=Heap.get?_some_iff.mp e
  refine Heap.get?_some_iff.mpr ⟨?_,e2⟩
  cases h
  simpa[Heap.push,Array.getElem?_push,hb] using e1
theorem Z49{P:Program}{w:World}{K:Ab}{elts:List Expr}{x1:Nat}{tp:Pos}(a e it:Addr)(hne:e≠it):
  Turn P w K (.Tuple elts x1 tp) (Ite K a) [e,it] e (fun i h=>(∃old,IsEnum h e it i old)∧h.IsListIter it a i) where
 mem:=by simp
 obj:=by
  rintro i h ⟨⟨old,he⟩,hit⟩ b hb
  have:b=e∨b=it:=by simpa using hb
  rcases this with rfl | rfl
  ·exact⟨_,he,fun v z=>by cases z⟩
  ·obtain⟨o,e,c,d⟩:=hit
   exact⟨o,e,fun v z=>by rw[d] at z;cases z⟩
 keep:=by
  rintro i h h' ⟨⟨old,he⟩,hit⟩ k
  exact⟨⟨old,k e (by simp) _ he⟩,hit.at fun o z=>k it (by simp) o z⟩
 item:=by
  rintro X rfl rfl rfl hc i pins s σ H E I hf ⟨⟨old,he⟩,hit⟩ ⟨xs,x,hq,hx⟩
  obtain⟨its,rv,p,hz⟩:=I.list hq
  obtain⟨u,hu,ru⟩:=rv.get hx
  have fe:=hf e (by simp)
  have fi:=hf it (by simp)
  have le:e<s.heap.objs.size:=Aj he
  have li:it<s.heap.objs.size:=by obtain⟨o,z,_⟩:=hit;exact Aj z
  refine wpAny_pyNext_enum_item he hit p.isList (x:=u) (by simpa using hu) hne fun h1 ho hit1 hT hsz hk=>?_
  refine⟨_,rfl,wpAny_letOwnedTupleGo_enum ho fun h2 he2 hs2=>?_⟩
  replace hs2:Il e h1 h2:=hs2
  have hT2:h2.get? s.heap.objs.size=some {cls:= .type "tuple",data:= .seq #[.int i s.toks,u]}:=(hs2.2 _ (Nat.ne_of_gt le)).trans hT
  have hn:H s.heap.objs.size=none:=I.hok.fresh (Nat.le_refl _)
  have I1:Inv X pins σ (upd H s.heap.objs.size (.tup [.int i,x])) {s with heap:=s.heap.push {cls:= .type "tuple",data:= .seq #[.int i s.toks,u]},toks:=s.toks+1}:=by
   refine I.laid (fun b ob q=>Ae _ q) (Nat.le_refl _) ⟨show 2≤sizeLine by rw[Kn];omega,[.int i s.toks,u],.cons ⟨_,rfl⟩ (.cons ru .nil),⟨_,Aq _ rfl,rfl,_,rfl⟩⟩
  have up:∀b,b<s.heap.objs.size→FpOk X pins H b→FpOk X pins (upd H s.heap.objs.size (.tup [.int i,x])) b:=by
   rintro b lb ⟨f0,f⟩
   refine⟨?_,f⟩
   rw[Za (Nat.ne_of_lt lb)]
   exact f0
  have I2:=Y13 (h':=h2) (t':=s.toks+1) I1 (fun c o ha hb e'=>by
   rcases Sv e' with z | z
   ·exact(hs2.2 c ha).trans (hk c o ha hb z)
   ·subst z
    have z2:(s.heap.push {cls:= .type "tuple",data:= .seq #[.int i s.toks,u]}).get? s.heap.objs.size=some o:=e'
    rw[Aq _ rfl] at z2
    cases z2
    exact hT2) (up e le fe) (up it li fi)
  refine⟨.ref s.heap.objs.size,_,I2,rfl,⟨_,x,hn,rfl,rfl,fun ys hy=>by rw[I.list_inj hy hq];exact hx⟩,⟨⟨_,by simpa using he2⟩,hit1.at fun o z=>(hs2.2 it (Ch hne)).trans z⟩,fun b hb=>?_⟩
  have:b=e∨b=it:=by simpa using hb
  rcases this with rfl | rfl
  ·exact(up _ le fe).1
  ·exact(up _ li fi).1
 done:=by
  rintro X rfl rfl rfl hc i pins s σ H E I hf ⟨⟨old,he⟩,hit⟩ ⟨xs,hq,hx⟩
  obtain⟨its,rv,p,hz⟩:=I.list hq
  obtain⟨f0,f1,f2,f3,f4,f5⟩:=hf it (by simp)
  have hl:=rv.length
  exact wpAny_pyNext_enum_end (I.ok.hd hc) he hit p.isList (by simp;omega) fun h' eb=>⟨rfl,I.turned (t':=s.toks) (fun b o hb e=>eb b o hb e) f0 f1 f3 f4 f5⟩
 self:=by
  rintro A i s Q E ⟨⟨old,he⟩,hit⟩ h
  exact wpAny_pyIter_enum he h
def Yf9(K:Ab)(ta:TA):TI:=fun σ H R=>ta σ H fun vs H1=>∃a,vs=[V.ref a]∧(∃xs,SqL K H1 a xs)∧R (Ite K a) H1
theorem Zv7{p pos:Pos}(hg:Gl X "enumerate")(hm:X.mg "enumerate"=none)(ha:PA X [l] ta)(hs:starEach [l] X.env=[(false,eval l X.env)]):
  PI X (.Tuple elts x1 tp) (.Call (.Name "enumerate" p) [l] [] pos) (Yf9 X.K ta):=by
 intro pins s σ H R I h
 refine Call_ (Rj I hg hm (u:= .type "enumerate") (by kernel_rfl) (Hr (thn (ha pos pins s σ H _ I h) fun us s1 zz63=>?_) hs rfl))
 obtain⟨vs,H1,I1,r1,q1⟩:=zz63
 obtain⟨a,rfl,⟨xs,hq⟩,q⟩:=q1
 obtain⟨u,rfl,ru⟩:=Jc r1
 cases ru
 obtain⟨its,rv,pl,hz⟩:=I1.list hq
 refine call_enumerate_list pl.isList fun h' he hit hsz hk=>?_
 refine wpAny_pyIter_enum he ?_
 have hne:s1.heap.objs.size+1≠s1.heap.objs.size:=by omega
 refine⟨s1.heap.objs.size+1,[s1.heap.objs.size+1,s1.heap.objs.size],_,_,H1,rfl,I1.kept (t':=s1.toks) hk,Z49 a _ _ hne,⟨⟨_,he⟩,hit⟩,fun b hb=>?_,q⟩
 have hb':s1.heap.objs.size≤b:=by
  have:b=s1.heap.objs.size+1∨b=s1.heap.objs.size:=by simpa using hb
  rcases this with rfl | rfl
  ·exact Nat.le_succ _
  ·exact Nat.le_refl _
 exact I1.fpOk hb' (I1.hok.fresh hb')
end
end L3
namespace PySem
theorem Fe:typeLookup (.type "list") "keys"=pure none:=by rw[typeLookup_type,builtinLookup_eq_fast];kernel_rfl
theorem Zt1{E:Value→Shared→Prop}{s:Shared}{a:Addr}{k:Nat}
  (hx:s.heap.get? a=some o) (hc:o.cls= .type "list") (hdat:o.data= .seq xs k) (hd:o.dict=none) (hmiss:typeLookup (.type "list") name=pure none) (hname:(["__module__","__name__","__qualname__","__doc__","__annotations__"]:List Str).contains name=false) (hA:A.handled=none)
  (h:∀h' tk e,Heap.NewExcOf s.heap h' e "AttributeError"→E (.ref e) {s with heap:=h',toks:=tk}) (hsz:name.length+100≤sizeLine:=by size_fits):
  wpAny (model prog w) A (getAttrBy (.ref a) (.str name u) false) Q E s:=by
 obtain⟨c,dct,dat,sl⟩:=o
 simp only at hc hdat hd
 subst hc hdat hd
 obtain⟨hp,g,d,tk,os⟩:=s
 have hT:∀tk',(⟨hp,g,d,tk',os⟩:Shared).TypeIs (.ref a) "list":=fun _=>⟨_,hx,rfl⟩
 have f1:=sub_AttributeError
 have f3:=F.slot_list_getattribute.lookup
 have f4:=F.slot_list_getattribute.bind (.ref a)
 have f5:=am_list_getattr_none
 unfold getAttrBy
 repeat (any_goals (first | assumption | exact hT _ | ((with_reducible show wpAny _ _ (call (Value.builtin "list.__getattribute__") _ _) _ _ _);refine call_meets F.slot_list_getattribute (hT _) am_entry_list_getattribute (F.args_list_getattribute_2 _ _) (meets_getattribute_miss_list a xs k sl name _ hmiss hname hsz) ⟨hx,hA,fun h' tk' e hx'=>?_⟩) | wp_step))
 obtain⟨t',u',he⟩:=hx'.there
 show wpAny _ _ (getattributeRaised _ _ _ _ _ _ _) _ _ _
 unfold getattributeRaised
 repeat (any_goals (first | assumption | wp_step))
 exact h _ _ _ hx'.of
theorem Y27{E:Value→Shared→Prop}{s:Shared}{a:Addr}{k:Nat}
  (hx:s.heap.get? a=some o) (hc:o.cls= .type "list") (hdat:o.data= .seq xs k) (hd:o.dict=none) (hA:A.handled=none)
  (h:∀h' tk,(∀b o,s.heap.get? b=some o→h'.get? b=some o)→Q none {s with heap:=h',toks:=tk}):wpAny (model prog w) A (getAttr? (.ref a) "keys") Q E s:=by
 obtain⟨hp,g,d,tk,os⟩:=s
 unfold getAttr? getAttrBy?
 have f1:=sub_AttributeError
 repeat (any_goals (first | assumption | ((with_reducible show wpAny _ _ (getAttrBy _ _ false) _ _ _);refine Zt1 hx hc hdat hd Fe (by decide+kernel) hA fun h' tk' e hx'=>?_;obtain⟨ob,vs,he,hcl,_,_⟩:=hx'.there;refine Aa (wpAny_isInstance (T:="AttributeError") ⟨ob,he,hcl⟩ f1 ?_);exact Ag (h h' tk' hx'.keeps)) | wp_step))
section
variable{prog:Program}{w:World}{A:Around}{E:Value→Shared→Prop}{R:Result→Shared→Prop}
theorem S8:entryFor table "dict.update.loop"=some Builtin.«dict.update.loop»:=entryFor_of_tree (by kernel_rfl)
theorem W4:plainId "dict.update.loop"=true:=by decide+kernel
def Zw3{K:Type}[DecidableEq K](knd:KeyKind prog w K)(h:Heap)(v:Value)(p:K×Value):Prop:=∃t u,v= .ref t∧h.IsTuple t #[u,p.2]∧knd.is p.1 u=true
theorem Cy{K:Type}[DecidableEq K]{knd:KeyKind prog w K}{h:Heap}{d I l:Addr}{i:Nat}{kvs:List (K×Value)}(hd:h.DictOf knd d kvs)(hI:h.IsListIter I l i):d≠I:=by
 rintro rfl
 obtain⟨o,_,_,ho,_,hc,_⟩:=hd
 obtain⟨o2,ho2,_,hc2⟩:=hI
 rw[ho] at ho2
 cases ho2
 rw[hc] at hc2
 cases hc2
theorem Y23{K:Type}[DecidableEq K]{knd:KeyKind prog w K}{l I d:Addr}{items:Array Value}{ps:List (K×Value)}(hh:A.in1.handled=none)(hsz:items.size<sizeLine)(hps:ps.length=items.size):
  ∀(k i:Nat) (s:Shared) (kvs:List (K×Value)) (t:Tok),items.size - i=k→i≤items.size→kvs.length≤i→
  s.heap.IsListIter I l i→s.heap.IsList l items→s.heap.DictOf knd d kvs→(∀(j:Nat) v p,items[j]?=some v→ps[j]?=some p→Zw3 knd s.heap v p)→
  (∀h' tk,h'.DictOf knd d ((ps.drop i).foldl (fun m p=>stored m p.1 p.2) kvs)→(∀b o,b≠I→b≠d→s.heap.get? b=some o→h'.get? b=some o)→R (.ok (.ret .none)) {s with heap:=h',toks:=tk})→
  codeAny (model prog w) A (.builtin "dict.update.loop" ⟨[.ref d,.ref I,.int i t,.none],[]⟩) R s:=by
 intro k
 induction k with
 | zero=>
  intro i s kvs t hk hi hkv hI hl hd hp q
  have hin:i=items.size:=by omega
  refine codeAny_builtin S8 ?_
  rw[Around.under_plainId W4 _]
  show wpAny _ A.in1 (pyNext (.ref I) >>=_) _ _ s
  refine Aa (wpAny_pyNext_list_end hh hI hl (by rw[hin];simp) fun h' he=>?_)
  show wpAny _ _ (Builtin.Dict.addKeywords d [] >>=_) _ _ _
  refine Aa (Ag (Ag ?_))
  have hdI:=Cy hd hI
  refine q h' _ ?_ fun b o h1 _ e=>he b o h1 e
  rw[List.drop_of_length_le (by omega)]
  exact hd.extBut he hdI
 | succ k ih=>
  intro i s kvs t hk hi hkv hI hl hd hp q
  have hlt:i<items.size:=by omega
  obtain⟨v,hv⟩:∃v,items[i]?=some v:=⟨_,Array.getElem?_eq_getElem hlt⟩
  obtain⟨p,hpi⟩:∃p,ps[i]?=some p:=⟨_,Ai (by omega)⟩
  refine codeAny_builtin S8 ?_
  rw[Around.under_plainId W4 _]
  show wpAny _ A.in1 (pyNext (.ref I) >>=_) _ _ s
  refine Aa (wpAny_pyNext_list_item hI hl hv fun h' hI' hs'=>?_)
  obtain⟨tt,u,rfl,htp,hku⟩:=hp i v p hv hpi
  have hdI:=Cy hd hI
  have keepI:∀b o,b≠I→s.heap.get? b=some o→h'.get? b=some o:=fun b o hb e=>(hs'.2 b hb).trans e
  have tI:tt≠I:=by
   rintro rfl
   obtain⟨o,ho,_,n,hc⟩:=htp
   obtain⟨o2,ho2,_,hc2⟩:=hI
   rw[ho] at ho2;cases ho2;rw[hc] at hc2;cases hc2
  have lI:l≠I:=by
   rintro rfl
   obtain⟨o,ho,_,n,hc⟩:=hl
   obtain⟨o2,ho2,_,hc2⟩:=hI
   rw[ho] at ho2;cases ho2;rw[hc] at hc2;cases hc2
  have nd:∀(b:Addr) (o:Obj) xs n,s.heap.get? b=some o→o.data= .seq xs n→b≠d∧b≠I:=by
   intro b o xs n ho hc
   constructor
   ·rintro rfl
    obtain⟨o2,_,_,ho2,_,hc2,_⟩:=hd
    rw[ho] at ho2;cases ho2;rw[hc] at hc2;cases hc2
   ·rintro rfl
    obtain⟨o2,ho2,_,hc2⟩:=hI
    rw[ho] at ho2;cases ho2;rw[hc] at hc2;cases hc2
  obtain⟨ot,hot,hct,nt,hdt⟩:=id htp
  show wpAny _ _ (holding [.ref tt] _ >>=_) _ _ _
  refine Aa (Kg (Aa (wpAny_tryCatch ?_)))
  unfold Builtin.Dict.pairItems
  refine Aa (wpAny_typeOf (T:="tuple") ⟨ot,keepI _ _ tI hot,hct⟩ ?_)
  rw[if_pos (by decide)]
  refine Aa (Ib (keepI _ _ tI hot) hdt ?_)
  refine Ag ?_
  show wpAny _ _ (holding [u,p.2] (dictSet d u p.2)) _ _ _
  have hd':h'.DictOf knd d kvs:=hd.extBut (fun b o hb e=>keepI b o hb e) hdI
  refine Kg (wpAny_dictSet_pairs hku hd' (fun h2 hd2 hs2=>?_) (by omega))
  refine Ag ⟨plainId_quiet W4 _,?_⟩
  have keep2:∀b o,b≠I→b≠d→s.heap.get? b=some o→h2.get? b=some o:=fun b o h1 h3 e=>(hs2.2 b h3).trans (keepI b o h1 e)
  have:=ih (i+1) {s with heap:=h2,toks:=s.toks+1} (stored kvs p.1 p.2) 0 (by omega) (by omega) ?_ ?_ ?_ hd2 ?_ ?_
  ·exact this
  ·unfold stored
   split
   ·rw[Ah];omega
   ·rw[Ac,Am];omega
  ·obtain⟨o,ho,r⟩:=hI'
   exact⟨o,(hs2.2 I (Ch hdI)).trans ho,r⟩
  ·obtain⟨o,ho,hc,n,r⟩:=hl
   exact⟨o,keep2 _ _ (nd _ _ _ _ ho r).2 (nd _ _ _ _ ho r).1 ho,hc,n,r⟩
  ·intro j v p' h1 h3
   obtain⟨t3,u3,e3,⟨o,ho,hc,n,r⟩,g3⟩:=hp j v p' h1 h3
   exact⟨t3,u3,e3,⟨o,keep2 _ _ (nd _ _ _ _ ho r).2 (nd _ _ _ _ ho r).1 ho,hc,n,r⟩,g3⟩
  ·intro h3 tk3 hd3 k3
   refine q h3 tk3 ?_ fun b o h1 h4 e=>k3 b o h1 h4 (keep2 b o h1 h4 e)
   rw[Hn (by omega:i<ps.length)]
   rw[Ai (by omega)] at hpi
   cases hpi
   exact hd3
variable{s:Shared}
theorem Y17{K:Type}[DecidableEq K]{knd:KeyKind prog w K}{l:Addr}{o:Obj}{n:Nat}{items:Array Value}{ps:List (K×Value)}{Q:Value→Shared→Prop}(hh:A.handled=none)
  (ho:s.heap.get? l=some o) (hc:o.cls= .type "list") (hdat:o.data= .seq items n) (hdi:o.dict=none) (hsz:items.size<sizeLine) (hps:ps.length=items.size)
  (hp:∀(j:Nat) v p,items[j]?=some v→ps[j]?=some p→Zw3 knd s.heap v p)
  (h:∀h' tk,h'.DictOf knd s.heap.objs.size (ps.foldl (fun m p=>stored m p.1 p.2) [])→(∀b o,s.heap.get? b=some o→h'.get? b=some o)→Q (.ref s.heap.objs.size) {s with heap:=h',toks:=tk}):
  wpAny (model prog w) A (call (.type "dict") [.ref l]) Q E s:=by
 refine callType_codes (Q₁:=fun obj s₁=>obj= .ref s.heap.objs.size∧s₁={s with heap:=s.heap.push {cls:= .type "dict",data:= .dict #[]}}) F.kt_called_dict (F.kt_typeCall_dict_1 _) F.entry_dict_init (kt_code_dict_new _ ⟨rfl,rfl⟩) ?_
 rintro obj s₁ ⟨rfl,rfl⟩
 have hnew:(s.heap.push {cls:= .type "dict",data:= .dict #[]}).DictOf knd s.heap.objs.size []:=Heap.DictOf.new s.heap
 refine⟨hnew.typeIs,F.args_dict_init_2 _ _,?_⟩
 unfold Builtin.«dict.__init__»
 refine Aa ?_
 unfold Builtin.Dict.selfAndRest
 refine Aa (wpAny_notOrdered_dict hnew.typeIs ?_)
 show wpAny _ _ (pure (s.heap.objs.size,[Value.ref l])) _ _ _
 refine Ag ?_
 show wpAny _ _ (Builtin.Dict.updateFrom "dict.__init__" s.heap.objs.size (.ref l) [] .none) _ _ _
 unfold Builtin.Dict.updateFrom
 have ho':(s.heap.push {cls:= .type "dict",data:= .dict #[]}).get? l=some o:=Ae _ ho
 refine Aa (wpAny_typeOf (T:="list") ⟨o,ho',hc⟩ ?_)
 rw[if_pos (by decide)]
 refine Aa (Y27 ho' hc hdat hdi (by first | exact hh | rfl) fun h1 tk1 k1=>?_)
 simp only[Option.isNone_none,if_true]
 have hl1:h1.IsList l items:=⟨o,k1 _ _ ho',hc,n,hdat⟩
 have hd1:h1.DictOf knd s.heap.objs.size []:=by
  obtain⟨q,es,ep,hq,r⟩:=hnew
  exact⟨q,es,ep,k1 _ _ hq,r⟩
 have old:∀b o,s.heap.get? b=some o→h1.get? b=some o:=fun b o e=>k1 b o (Ae _ e)
 refine Aa (Ls ?_)
 refine Aa (wpAny_pyIter_list hl1 ?_)
 refine Ag ⟨plainId_quiet W4 _,?_⟩
 refine Y23 (A:=A.in1) (knd:=knd) (ps:=ps) hh hsz hps _ 0 _ [] 0 rfl (Nat.zero_le _) (Nat.zero_le _) ⟨_,Aq _ rfl,rfl,rfl⟩ (hl1.push _) (hd1.push _) ?_ ?_
 ·intro j v p h2 h3
  obtain⟨t,u,e,⟨q,hq,r⟩,g⟩:=hp j v p h2 h3
  exact⟨t,u,e,⟨q,Ae _ (old _ _ hq),r⟩,g⟩
 ·intro h' tk hd' hk
  refine⟨rfl,h h' tk hd' fun b o e=>hk b o ?_ ?_ (Ae _ (old _ _ e))⟩
  ·exact Nat.ne_of_lt (Aj (old _ _ e))
  ·exact Nat.ne_of_lt (Aj e)
end
end PySem
namespace L3
open PySem PySem.Spec PyProof.Rows L2
section
variable{X:Cx}{pins:List (Addr×Obj)}{σ:L2.St}{H:Hp}{s:Shared}
def Fg(K:Ab)(H:Hp):List V→List (Key×V)→Prop
 | [],[]=>True
 | v::r,p::q=>(∃t,v= .ref t∧SqT K H t [kV p.1,p.2])∧Fg K H r q
 | _,_=>False
theorem Cr(I:Inv X pins σ H s):∀(vs:List V) (its:List Value) (ps:List (Key×V)),Vals vs its→Fg X.K H vs ps→∃ps',KV ps ps'∧ps'.length=its.length∧∀(j:Nat) v p,its[j]?=some v→ps'[j]?=some p→Zw3 (Ye X.prog X.w) s.heap v p
 | [],its,ps,r,h=>by
  cases ps with
  | cons _ _=>exact h.elim
  | nil=>
   have:=r.length
   cases its with
   | cons _ _=>simp at this
   | nil=>exact⟨[],by constructor,rfl,fun j v p h=>by simp at h⟩
 | v::vs,its,ps,r,h=>by
  cases ps with
  | nil=>exact h.elim
  | cons p ps=>
   obtain⟨⟨t,rfl,ht⟩,h⟩:=h
   cases r with
   | @cons _ u _ its ru r=>
   cases (show u=Value.ref t from ru)
   obtain⟨w2,r2,ht2,_⟩:=I.tuple ht
   obtain⟨u1,u2,rfl,s1,s2⟩:=Ni r2
   obtain⟨ps',k1,k2,k3⟩:=Cr I vs its ps r h
   refine⟨(p.1,u2)::ps',.cons ⟨rfl,s2⟩ k1,by rw[An,An,k2],fun j v q h1 h2=>?_⟩
   cases j with
   | zero=>
    cases h1;cases h2
    exact⟨t,u1,rfl,ht2,G9 s1⟩
   | succ j=>exact k3 j v q h1 h2
theorem Zd3:∀{ps:List (Key×V)} {ps':List (Key×Value)} {kvs:List (Key×V)} {vs:List (Key×Value)},KV ps ps'→KV kvs vs→KV (ps.foldl (fun m p=>putK m p.1 p.2) kvs) (ps'.foldl (fun m p=>stored m p.1 p.2) vs)
 | _,_,_,_,.nil,h=>h
 | _,_,_,_,.cons e r,h=>by
  rw[Lc,Lc]
  refine Zd3 r ?_
  rw[e.1]
  exact h.put _ e.2
theorem Cz:∀(ps:List (Key×V)) (kvs:List (Key×V)),(ps.foldl (fun m p=>putK m p.1 p.2) kvs).length≤kvs.length+ps.length
 | [],kvs=>Nat.le_refl _
 | p::ps,kvs=>by
  rw[Lc,An]
  have:=Cz ps (putK kvs p.1 p.2)
  have:=Wf kvs p.1 p.2
  omega
theorem G5{K:Ab}:∀{vs:List V} {ps:List (Key×V)},Fg K H vs ps→vs.length=ps.length
 | [],[],_=>rfl
 | _::_,_::_,h=>by rw[An,An,G5 h.2]
theorem Br(hc:X.calm=true):Tw X (.type "dict") (fun xs H Q=>∃(a:Addr) (vs:List V) (ps:List (Key×V)),xs=[V.ref a]∧SqL X.K H a vs∧Fg X.K H vs ps∧vs.length<sizeLine∧
  ∀p,H p=none→Q (.ref p) (upd H p (.dK (ps.foldl (fun m p=>putK m p.1 p.2) [])))):=by
 intro pins s σ H xs us Q I r h
 obtain⟨a,vs,ps,rfl,hx,hp,hz,q⟩:=h
 obtain⟨u,rfl,ru⟩:=Jc r
 cases ru
 obtain⟨its,rv,⟨o,n,ho,h1,h2,h3⟩,_⟩:=I.list hx
 obtain⟨ps',k1,k2,k3⟩:=Cr I vs its ps rv hp
 have hl:=rv.length
 have hl2:=G5 hp
 refine Y17 (knd:=Ye X.prog X.w) (ps:=ps') (I.ok.hd hc) ho h1 h3 h2 (by rw[Ak];omega) (by rw[Ak];exact k2) (fun j v p e1 e2=>k3 j v p (by simpa using e1) e2) fun h' tk dd keep=>?_
 have lf:=Cz ps []
 refine⟨.ref _,_,I.laid (a:=s.heap.objs.size) (o:= .dK (ps.foldl (fun m p=>putK m p.1 p.2) [])) (t':=tk) keep (Nat.le_refl _) (C1 (by rw[Hq] at lf;omega) (beq_eq_false_iff_ne.mpr (Ch (Nat.ne_of_lt I.big))) (Zd3 k1 .nil) dd),rfl,q _ (I.hok.fresh (Nat.le_refl _))⟩
end
noncomputable def Itd(a:Addr)(o:Obj):It:=⟨fun i H=>∃kvs p,H a=some (.frz o (.dK kvs))∧kvs[i]?=some p,fun i H x H'=>H'=H∧∀kvs,H a=some (.frz o (.dK kvs))→∃p,kvs[i]?=some p∧x=kV p.1,fun i H=>∃kvs,H a=some (.frz o (.dK kvs))∧kvs.length≤i⟩
theorem Z53{a:Addr}(x:X6 P w H h a (.frz o (.dK kvs)))(hd:o.data= .dict es ep):
  ∃vs,KV kvs vs∧h.DictAt (Ye P w) a vs ep∧vs.length=es.size:=by
 obtain⟨e,_,_,vs,rel,o',es',ep',e',h1,h2,h3,h4,h5⟩:=x
 rw[e] at e'
 cases e'
 rw[hd] at h2
 cases h2
 refine⟨vs,rel,⟨o,es,e,h1,hd,h3,h4,h5⟩,?_⟩
 have:=h4.length
 simpa using this.symm
theorem Yg3{k:Key}(h:(Ye P w).is k u=true):L2.RelV (kV k) u:=by
 rcases Yp h with⟨i,t,rfl,rfl⟩ | ⟨x,t,rfl,rfl⟩
 ·exact⟨t,rfl⟩
 ·exact⟨t,rfl⟩
theorem Yh0(r:KV kvs vs):∀{i:Nat} {p:Key×V},kvs[i]?=some p→∃u,vs[i]?=some (p.1,u)∧L2.RelV p.2 u:=by
 unfold KV at r
 induction r with
 | nil=>intro i p e;simp at e
 | @cons p q ps qs h t ih=>
  intro i p e
  cases i with
  | zero=>
   cases e
   exact⟨q.2,by rw[h.1];rfl,h.2⟩
  | succ i=>exact ih (by simpa using e)
theorem Ze9{K:Ab}(a it:Addr)(hd:o.data= .dict es ep):Turn P w K tg (Itd a o) [it] it (fun i h=>h.IsKeyIter it a i es.size ep) where
 mem:=by simp
 obj:=fun i h st b hb=>by
  have e:b=it:=by simpa using hb
  subst e
  obtain⟨o,e,c,d⟩:=st
  exact⟨o,e,fun v z=>by rw[d] at z;cases z⟩
 keep:=fun i h h' st k=>st.at fun o e=>k it (by simp) o e
 item:=by
  intro X hP hw hK hc i pins s σ H E I hf st hg
  subst hP hw hK
  obtain⟨kvs,p,hq,hx⟩:=hg
  obtain⟨vs,rel,dd,hl⟩:=Z53 (I.hok a _ hq) hd
  obtain⟨q,hx2,e2⟩:=Yh0 rel hx
  obtain⟨f0,f1,f2,f3,f4,f5⟩:=hf it (by simp)
  rw[←hl] at st
  refine wpAny_pyNext_dict_item st dd hx2 fun key h' hkey st' sb=>?_
  have I1:Inv X pins σ H {s with heap:=h'}:=I.turned (t':=s.toks) (fun b o hb e=>(sb.2 b hb).trans e) f0 f1 f3 f4 f5
  obtain⟨ob,e,c,d⟩:=id st'
  rw[hl] at st'
  exact⟨key,rfl,Z52 (s:={s with heap:=h'}) e c d (by decide) ⟨kV p.1,H,I1,Yg3 hkey,⟨rfl,fun ys hy=>by rw[hq] at hy;cases hy;exact⟨p,hx,rfl⟩⟩,st',fun b hb=>(hf b hb).1⟩⟩
 done:=by
  intro X hP hw hK hc i pins s σ H E I hf st hg
  subst hP hw hK
  obtain⟨kvs,hq,hx⟩:=hg
  obtain⟨vs,rel,dd,hl⟩:=Z53 (I.hok a _ hq) hd
  obtain⟨f0,f1,f2,f3,f4,f5⟩:=hf it (by simp)
  have hl2:=rel.length
  rw[←hl] at st
  exact wpAny_pyNext_dict_end (I.ok.hd hc) st dd (by simp;omega) fun h' eb=>⟨rfl,I.turned (t':=s.toks) (fun b o hb e=>eb b o hb e) f0 f1 f3 f4 f5⟩
 self:=fun _ _ _ _ _ st h=>wpAny_pyIter_keyiter st h
section
variable{X:Cx}{pins:List (Addr×Obj)}{σ:L2.St}{H:Hp}{s:Shared}{a:Addr}
theorem Zo8(I:Inv X pins σ H s)(e:H a=some (.dK kvs)):
  ∃o es ep,o.data= .dict es ep∧s.heap.get? a=some o∧Inv X pins σ (upd H a (.frz o (.dK kvs))) s∧(∀o u,X.H₀ a≠some (.frz o u)):=by
 obtain⟨z,hd,vs,rel,dd⟩:=Z11 I.hok e
 obtain⟨o,es,ep,ho,h1,h2,h3⟩:=id dd
 refine⟨o,es,ep,h2,ho,?_,fun o' u q=>?_⟩
 ·exact I.write (x:=a) (e:=a) (o:= .frz o (.dK kvs)) (h':=s.heap) (t':=s.toks) (by rw[e];exact Dy) (.inl rfl) (fun b q _ r=>r) ⟨o,ho⟩ ⟨ho,z,hd,vs,rel,dd⟩
 ·have:=I.base.frzs a o' u q
  rw[e] at this
  cases this
theorem Zr4(I:Inv X pins σ H s)(e:H a=some (.frz o (.dK kvs)))(nf:∀o u,X.H₀ a≠some (.frz o u)):Inv X pins σ (upd H a (.dK kvs)) s where
 ok:=I.ok
 os:=I.os
 bare:=I.bare
 base:=by
  have ne:∀b,H b=none→b≠a:=fun b n z=>by subst z;rw[e] at n;cases n
  refine⟨I.base.keep,I.base.slot,fun b q h n hx=>?_,I.base.there,fun b xs h=>?_,fun b q u h=>?_,fun b ps h=>?_⟩
  ·have:=I.base.free b q h n hx
   rw[Za (ne b this)];exact this
  ·have:=I.base.tups b xs h
   rw[Za (fun z=>by subst z;rw[e] at this;cases this)];exact this
  ·have:=I.base.frzs b q u h
   rw[Za (fun z=>by subst z;exact nf q u h)];exact this
  ·obtain⟨m,this⟩:=I.base.tbls b ps h
   exact⟨m,by rw[Za (fun z=>by subst z;rw[e] at this;cases this)];exact this⟩
 loc:=I.loc
 cell:=I.cell
 free:=by rw[Za (fun z=>by have:=I.free;rw[z,e] at this;cases this)];exact I.free
 freeC:=fun x c h=>by
  have:=I.freeC x c h
  rw[Za (fun z=>by subst z;rw[e] at this;cases this)];exact this
 pin:=fun p hp=>by
  obtain⟨h1,h2,h3⟩:=I.pin p hp
  exact⟨h1,by rw[Za (fun z=>by rw[z,e] at h2;cases h2)];exact h2,h3⟩
 hok:=by
  intro b u h
  by_cases hb:b=a
  ·subst hb
   rw[Zs] at h
   cases h
   obtain⟨_,q⟩:=I.hok b _ e
   exact q
  ·rw[Za hb] at h
   refine(I.hok b u h).stay (fun c v _ r=>r) (fun c r=>?_) fun c xs r=>?_
   ·rw[Za (fun z=>by subst z;rw[e] at r;cases r)];exact r
   ·rw[Za (fun z=>by subst z;rw[e] at r;cases r)];exact r
 len:=I.len
end
section
variable{X:Cx}
theorem Nh{pins:List (Addr×Obj)}{σ:L2.St}{H:Hp}{s:Shared}{h':Heap}{t':Nat}{ch:List Addr}(I:Inv X pins σ H s)(k:∀c o,c∉ch→s.heap.get? c=some o→h'.get? c=some o)(f:∀b∈ch,FpOk X pins H b):Inv X pins σ H {s with heap:=h',toks:=t'}:=by
 have nn:∀c u,H c=some u→c∉ch:=by
  intro c u e z
  rw[(f c z).1] at e
  cases e
 refine I.step (ch:=ch) (g':=s.gens) (d':=s.drawn) ?_ ?_ ?_ ?_ ?_ ?_ ?_ ?_ ?_ ?_ I.bare
 ·intro c hc
  exact⟨(f c hc).2.2.2.1,(f c hc).2.1,(f c hc).2.2.2.2.1,(f c hc).2.2.2.2.2⟩
 ·intro c o _ _ hc e _;exact k c o hc e
 ·intro c o _ _ hc e _;exact⟨o.slots,k c o hc e⟩
 ·intro _ _ _ _ n;exact n
 ·intro c o hc e;exact⟨o,k c o hc e⟩
 ·intro _ _ e;exact e
 ·intro _ _ _ e;exact e
 ·intro c ps e;exact⟨#[],by rw[e];simp⟩
 ·rintro m ⟨o,es,ep,ho,r⟩
  exact⟨o,es,ep,k _ o (fun z=>(f _ z).2.1 rfl) ho,r⟩
 ·intro c u e
  refine(I.hok c u e).stay ?_ (fun _ q=>q) fun _ _ q=>q
  intro d v hd q
  rcases hd with z | z
  ·subst z;exact k d v (nn d u e) q
  ·exact k d v (nn d _ z) q
noncomputable def Itz(K:Ab)(a b:Addr):It:=
 ⟨fun i H=>∃xs ys x y,SqL K H a xs∧SqL K H b ys∧xs[i]?=some x∧ys[i]?=some y,
  fun i H x H'=>∃p u v,H p=none∧H'=upd H p (.tup [u,v])∧x= .ref p∧(∀xs,SqL K H a xs→xs[i]?=some u)∧∀ys,SqL K H b ys→ys[i]?=some v,
  fun i H=>∃xs ys,SqL K H a xs∧SqL K H b ys∧(xs.length≤i∨ys.length≤i)⟩
theorem Zk5{P:Program}{w:World}{K:Ab}{elts:List Expr}{x1:Nat}{tp:Pos}(z TI TO i1 i2 a b:Addr)(D:ZipApart z TI TO i1 i2 a b):
  Turn P w K (.Tuple elts x1 tp) (Itz K a b) [z,TI,TO,i1,i2] z (fun i h=>IsZip h z TI TO .none∧IsPair h TI (.ref i1) (.ref i2)∧(∃u v,IsPair h TO u v)∧h.IsListIter i1 a i∧h.IsListIter i2 b i) where
 mem:=by simp
 obj:=by
  rintro i h ⟨hz,hTI,⟨u,v,hTO⟩,⟨o1,e1,_,d1⟩,⟨o2,e2,_,d2⟩⟩ c hc
  simp only[Aw,Ha,or_false] at hc
  rcases hc with rfl | rfl | rfl | rfl | rfl
  ·exact⟨_,hz,fun v q=>by cases q⟩
  ·exact⟨_,hTI,fun v q=>by cases q⟩
  ·exact⟨_,hTO,fun v q=>by cases q⟩
  ·exact⟨_,e1,fun v q=>by rw[d1] at q;cases q⟩
  ·exact⟨_,e2,fun v q=>by rw[d2] at q;cases q⟩
 keep:=by
  rintro i h h' ⟨hz,hTI,⟨u,v,hTO⟩,h1,h2⟩ k
  exact⟨k z (by simp) _ hz,k TI (by simp) _ hTI,⟨u,v,k TO (by simp) _ hTO⟩,h1.at fun o q=>k i1 (by simp) o q,h2.at fun o q=>k i2 (by simp) o q⟩
 item:=by
  rintro X rfl rfl rfl hc i pins s σ H E I hf ⟨hz,hTI,⟨u0,v0,hTO⟩,h1,h2⟩ ⟨xs,ys,x,y,hq,hr,hx,hy⟩
  obtain⟨its,rv,p,_⟩:=I.list hq
  obtain⟨jts,rw2,p2,_⟩:=I.list hr
  obtain⟨u,hu,ru⟩:=rv.get hx
  obtain⟨v,hv,rv2⟩:=rw2.get hy
  have lt:∀c∈[z,TI,TO,i1,i2],@LT.lt Nat _ c s.heap.objs.size:=by
   intro c hc
   simp only[Aw,Ha,or_false] at hc
   obtain⟨o1,e1,_⟩:=id h1
   obtain⟨o2,e2,_⟩:=id h2
   rcases hc with rfl | rfl | rfl | rfl | rfl
   ·exact Aj hz
   ·exact Aj hTI
   ·exact Aj hTO
   ·exact Aj e1
   ·exact Aj e2
  refine wpAny_pyNext_zip_item D hz hTI hTO h1 h2 p.isList p2.isList (x:=u) (y:=v) (by simpa using hu) (by simpa using hv) fun hh ho hTO2 g1 g2 hT hsz hk=>?_
  refine⟨_,rfl,wpAny_letOwnedTupleGo_zip ho fun h3 hz3 hs3=>?_⟩
  replace hs3:Il z hh h3:=hs3
  have nz:s.heap.objs.size≠z:=Nat.ne_of_gt (lt z (by simp))
  have hT3:h3.get? s.heap.objs.size=some {cls:= .type "tuple",data:= .seq #[u,v]}:=(hs3.2 _ nz).trans hT
  have hn:H s.heap.objs.size=none:=I.hok.fresh (Nat.le_refl _)
  have I1:Inv X pins σ (upd H s.heap.objs.size (.tup [x,y])) {s with heap:=s.heap.push {cls:= .type "tuple",data:= .seq #[u,v]},toks:=s.toks}:=
   I.laid (fun b ob q=>Ae _ q) (Nat.le_refl _) ⟨show 2≤sizeLine by rw[Kn];omega,[u,v],.cons ru (.cons rv2 .nil),⟨_,Aq _ rfl,rfl,_,rfl⟩⟩
  have up:∀c∈[z,TI,TO,i1,i2],FpOk X pins (upd H s.heap.objs.size (.tup [x,y])) c:=by
   intro c hc
   refine⟨?_,(hf c hc).2⟩
   rw[Za (Nat.ne_of_lt (lt c hc))]
   exact(hf c hc).1
  have I2:=Nh (h':=h3) (t':=s.toks) I1 (fun c o hc e'=>by
   simp only[Aw,Ha,or_false,not_or] at hc
   rcases Sv e' with q | q
   ·exact(hs3.2 c hc.1).trans (hk c o hc.1 hc.2.2.1 hc.2.2.2.1 hc.2.2.2.2 q)
   ·subst q
    have z2:(s.heap.push {cls:= .type "tuple",data:= .seq #[u,v]}).get? s.heap.objs.size=some o:=e'
    rw[Aq _ rfl] at z2
    cases z2
    exact hT3) up
  refine⟨.ref s.heap.objs.size,_,I2,rfl,⟨_,x,y,hn,rfl,rfl,fun zs hs=>by rw[I.list_inj hs hq];exact hx,fun zs hs=>by rw[I.list_inj hs hr];exact hy⟩,
   ⟨hz3,(hs3.2 TI D.TIz).trans (hk TI _ D.TIz D.TITO D.TIi1 D.TIi2 hTI),⟨_,_,(hs3.2 TO D.TOz).trans hTO2⟩,g1.at fun o q=>(hs3.2 i1 D.i1z).trans q,g2.at fun o q=>(hs3.2 i2 D.i2z).trans q⟩,fun c hc=>(up c hc).1⟩
 done:=by
  rintro X rfl rfl rfl hc i pins s σ H E I hf ⟨hz,hTI,⟨u0,v0,hTO⟩,h1,h2⟩ ⟨xs,ys,hq,hr,hl⟩
  obtain⟨its,rv,p,_⟩:=I.list hq
  obtain⟨jts,rw2,p2,_⟩:=I.list hr
  have l1:=rv.length
  have l2:=rw2.length
  refine wpAny_pyNext_zip_end (I.ok.hd hc) D hz hTI hTO h1 h2 p.isList p2.isList ?_ fun h' eb=>⟨rfl,Nh (t':=s.toks) I (ch:=[z,TI,TO,i1,i2]) (fun c o hc e=>?_) hf⟩
  ·rcases hl with hl | hl
   ·exact .inl (by simp;omega)
   ·exact .inr (by simp;omega)
  ·simp only[Aw,Ha,or_false,not_or] at hc
   exact eb c o hc.1 hc.2.2.1 hc.2.2.2.1 hc.2.2.2.2 e
 self:=by
  rintro A i s Q E ⟨hz,_⟩ h
  exact wpAny_pyIter_zip hz h
end
end L3
namespace SW
open PySem
def Rise(xs:Array Nat):Prop:=∀i k,i<k→k<xs.size→xs.getD i 0<xs.getD k 0
structure At(xs:Array Nat)(j i:Nat):Prop where
 le:i≤xs.size
 lo:∀k,k<i→xs.getD k 0<j
 hi:∀k,i≤k→k<xs.size→j≤xs.getD k 0
structure TOk(t:SetTable)(led:Bool):Prop where
 rise:Rise t.place
 dum:t.dummies=#[]
 led:t.led=led
end SW
namespace SW
open PySem PyProof.Rows
section
variable{M:Model}{prog:Program}{w:World}{A:Around}{E:Value→Shared→Prop}{s:Shared}
inductive KeysOf {K:Type} [DecidableEq K] (knd:KeyKind prog w K):List K→List (Int×Value)→Prop
 | nil:KeysOf knd [] []
 | cons {k:K} {e:Int×Value} {ks:List K} {l:List (Int×Value)} (h:knd.is k e.2=true) (r:KeysOf knd ks l):KeysOf knd (k::ks) (e::l)
variable{K:Type}[DecidableEq K]{knd:KeyKind prog w K}
structure SetO(knd:KeyKind prog w K)(led:Bool)(o:Obj)(ks:List K):Prop where
 ex:o.ExactSet
 dat:∃es ep t,o.data= .set es ep t∧ElemsOf knd es.toList∧KeysOf knd ks es.toList∧t.fits es.size=true∧TOk t led
 nd:ks.Nodup
 sm:ks.length<scanBound
end
section
variable{prog:Program}{w:World}{A:Around}{E:Value→Shared→Prop}{s:Shared}
end
section
variable{prog:Program}{w:World}{A:Around}{E:Value→Shared→Prop}{s:Shared}{K:Type}[DecidableEq K]{knd:KeyKind prog w K}
set_option maxHeartbeats 3200000 in
end
section
variable{prog:Program}{w:World}{A:Around}{E:Value→Shared→Prop}{s:Shared}
noncomputable abbrev itO(f:Value)(i:Nat)(a:Addr)(n ep:Nat):Obj:={cls:= .type "set_iterator",dict:=none,data:= .fields #[f,rawInt i,.ref a,rawInt n,rawInt ep],slots:=#[]}
section
variable{a I:Addr}{o:Obj}{es:Array (Int×Value)}{ep:Nat}{t:SetTable}
theorem Zh1(hh:A.handled=none)(h:∀h' e,(∀b u,s.heap.get? b=some u→h'.get? b=some u)→(∃u,h'.get? e=some u∧u.cls= .type "StopIteration")→R (.ref e) {s with heap:=h'}):wpAny (model prog w) A (newExc (.type "StopIteration") [] >>=fun e=>(raiseNew e:Sem Fin)) Q R s:=by
 refine Aa ?_
 simp only[newExc,newTuple]
 refine Aa (Hw ?_ (by size_fits))
 refine Aa (m:=firstArgMember _ _) (wpAny_of_eq (a:=Value.none) (by first | rfl | (simp only[firstArgMember];rfl)) ?_)
 refine Hw ?_ (by size_fits)
 simp only[raiseNew]
 refine Aa (wpAny_handled ?_)
 rw[hh]
 refine Aa (Ag (wpAny_throw ?_))
 exact h _ _ (fun b u q=>Ae _ (Ae _ q)) ⟨_,Aq _ rfl,rfl⟩
end
end
section
variable{prog:Program}{w:World}{A:Around}{E:Value→Shared→Prop}{s:Shared}
structure ItSt(w:World)(I a T:Addr)(o:Obj)(es:Array (Int×Value))(ep:Nat)(t:SetTable)(vs:List Value)(i:Nat)(h:Heap):Prop where
 set:h.get? a=some o
 md:(w.params.followText "set-order"=true∧vs=(pickOrder (w.params.setOrder a ep) es).toList.map (·.2)∧h.get? I=some (itO (rawInt 0) i a es.size ep))
  ∨(w.params.followText "set-order"=false∧(!t.plain&&decide (es.size >1))=false∧t.led=true∧Rise t.place∧vs=es.toList.map (·.2)∧∃slot,SetTable.below t.place slot=i∧h.get? I=some (itO (rawInt slot) i a es.size ep))
  ∨(∃pl:List Nat,h.IsTuple T (pl.map fun(k:Nat)=>rawInt k).toArray∧vs=pl.map (fun k=>(es.getD k (0,.none)).2)∧(∀k∈pl,k<es.size)∧h.get? I=some (itO (.ref T) i a es.size ep))
end
end SW
namespace SW
open PySem PyProof.Rows PySem.W
end SW
namespace SW
open PySem PyProof.Rows
end SW
namespace L3
open PySem PySem.Spec PyProof.Rows L2
end L3
namespace L2
open PySem PySem.Spec PyProof.Rows
variable{X:Cx}
end L2
namespace SW
open PySem PySem.Spec PyProof.Rows
section
variable{prog:Program}{w:World}{A:Around}{E:Value→Shared→Prop}{s:Shared}
theorem Z17:typeLookup (.type "list_reverseiterator") "__len__"=pure none:=by rw[typeLookup_type,builtinLookup_eq_fast];kernel_rfl
theorem Nq:Slot "list_reverseiterator" "__length_hint__" "list_reverseiterator.__length_hint__":=
 .of (owner:="list_reverseiterator") (n:="__length_hint__") (by rw[typeLookup_type,builtinLookup_eq_fast];kernel_rfl) (by decide+kernel) (by decide+kernel) (by decide+kernel)
  (by first | exact .inl (by decide+kernel) | exact .inr (by decide+kernel)) (by rw[isSubtype_type];kernel_rfl)
theorem Zk8(hT:s.TypeIs (.ref r) "list_reverseiterator")(h:Q false s):wpAny (model prog w) A (Builtin.List.listLengthHint (.ref r)) Q E s:=by
 unfold Builtin.List.listLengthHint
 refine Aa (wpAny_specialOf hT Z17 ?_)
 show wpAny _ A (specialOf (Value.ref r) (Str.ofString "__length_hint__") >>=_) _ _ _
 refine Aa (wpAny_specialOf hT Nq.lookup ?_)
 generalize hid:("list_reverseiterator.__length_hint__":String)=id0
 wp_delta
 rw[show splitId id0=some ("list_reverseiterator","__length_hint__") from by subst hid;decide+kernel]
 subst hid
 refine Aa (wpAny_isInstance (T:="list_reverseiterator") (b:=true) hT (by rw[isSubtype_type];kernel_rfl) ?_)
 refine wpAny_ite_split (fun hab=>absurd hab (by decide)) (fun _=>?_)
 dsimp only
 refine wpAny_ite_split (fun _=>?_) (fun hab=>absurd (by decide+kernel) hab)
 refine wpAny_ite_split (fun hab=>absurd hab (by decide+kernel)) (fun _=>?_)
 exact Ag h
theorem Y19{I l S:Addr}{items:Array Value}{res:Value}{R:Result→Shared→Prop}(hh:A.handled=none)(hit:s.heap.IsRevIter I l ((items.size:Int) - 1))(hl:s.heap.IsList l items)(hz:items.size≤sizeLine)(hlI:l≠I)(hSI:S≠I)(hSl:S≠l)(c0:Nat)(hS:s.heap.get? S=some {cls:= .type "list",data:= .seq #[] c0})
  (hR:∀h' tk acc c',ItemsOf (fun i v=>items[items.size - 1 - i]?=some v) acc items.size→(∀b u,b≠S→b≠I→s.heap.get? b=some u→h'.get? b=some u)→h'.get? S=some {cls:= .type "list",dict:=none,data:= .seq acc c',slots:=#[]}→R (.ok (.ret res)) {s with heap:=h',toks:=tk}):
  wpAny (model prog w) A.in1 (Kb (.ref S) (.ref I) res)
   (fun fin s'=>match fin with | .done f=>R (.ok f) s' | .again c'=>c'.quiet=true∧codeAny (model prog w) A c' R s') (fun e s'=>R (.error e) s') s:=by
 have W:=Walks.listRev (prog:=prog) (w:=w) (A:=A.in1) hh I l hlI items
 have nf:S∉[I,l]:=by
  simp only[Aw,Ha,or_false,not_or]
  exact⟨hSI,hSl⟩
 have st0:0≤items.size∧s.heap.IsRevIter I l ((items.size:Int) - 1 - ((0:Nat):Int))∧s.heap.IsList l items:=⟨Nat.zero_le _,by rw[show(items.size:Int) - 1 - ((0:Nat):Int)=(items.size:Int) - 1 by omega];exact hit,hl⟩
 have hT:=hit.typeIs
 unfold Kb
 refine Aa (wpAny_typeOf hT ?_)
 have q1:Builtin.List.listSameRef (.ref S) (.ref I)=false:=by simp[Builtin.List.listSameRef,hSI]
 have q2:(Value.type "list_reverseiterator"==Value.type "list")=false:=by decide
 have q3:(Value.type "list_reverseiterator"==Value.type "tuple")=false:=by decide
 simp only[q1,q2,q3,Bool.or_false,Bool.false_eq_true,if_false]
 refine Aa (wpAny_pyIter_revIter hit ?_)
 have key:∀(h2:Heap) (c1 tk:Nat),(0≤items.size∧h2.IsRevIter I l ((items.size:Int) - 1 - ((0:Nat):Int))∧h2.IsList l items)→(∀b u,b≠S→s.heap.get? b=some u→h2.get? b=some u)→h2.get? S=some {cls:= .type "list",data:= .seq #[] c1}→
   codeAny (model prog w) A (.builtin "list.extend.loop" ⟨[.ref S,.ref I,res],[]⟩) R {s with heap:=h2,toks:=tk}:=by
  intro h2 c1 tk st2 k2 g2
  refine codeAny_extend_loopS W.toS hz S nf res items.size 0 _ #[] c1 rfl (Nat.zero_le _) st2 g2 (ItemsOf.nil _) fun s' acc c' mv hS' hacc=>?_
  rw[Moved.eq_with mv]
  refine hR s'.heap s'.toks acc c' hacc (fun b u hb hI e=>mv.heap b u ?_ (k2 b u hb e)) hS'
  intro hm
  rcases Aw.mp hm with z | z
  ·exact hb z
  ·exact hI (Db.mp z)
 refine Aa (Kg (Zk8 hT ?_))
 refine wpAny_ite_split (fun _=>?_) fun _=>Ag ⟨plainId_quiet PySem.F.plain_extend_loop _,key _ c0 _ st0 (fun b u _ e=>e) hS⟩
 refine Aa (Ls (Aa ?_))
 show wpAny _ _ (updateSeq S (·.push .none) >>=fun _=>updateSeq S (·.pop)) _ _ _
 refine Aa (wpAny_updateSeq hS rfl ?_)
 have g2:=Ds (Iw (·.push Value.none)) hS rfl
 refine wpAny_updateSeq (hz:=by seq_fits) g2 rfl ?_
 have g3:=Ds (Iw (·.pop)) g2 rfl
 have far:∀b u,b≠S→s.heap.get? b=some u→((s.heap.update S (Iw (·.push Value.none))).update S (Iw (·.pop))).get? b=some u:=fun b u hb e=>(Dl _ _ (Ch hb)).trans ((Dl _ _ (Ch hb)).trans e)
 exact Ag ⟨plainId_quiet PySem.F.plain_extend_loop _,key _ _ _ (W.frame 0 _ _ st0 fun b hb u e=>far b u (fun z=>nf (z ▸ hb)) e) far g3⟩
theorem Zh9{I l S:Addr}{items:Array Value}{R:Result→Shared→Prop}(hh:A.handled=none)(hit:s.heap.IsRevIter I l ((items.size:Int) - 1))(hl:s.heap.IsList l items)(hz:items.size≤sizeLine)(hlI:l≠I)(hSI:S≠I)(hSl:S≠l)(hS:s.heap.get? S=some {cls:= .type "list",data:= .seq #[]})
  (hR:∀h' tk acc c',ItemsOf (fun i v=>items[items.size - 1 - i]?=some v) acc items.size→(∀b u,b≠S→b≠I→s.heap.get? b=some u→h'.get? b=some u)→h'.get? S=some {cls:= .type "list",dict:=none,data:= .seq acc c',slots:=#[]}→R (.ok (.ret .none)) {s with heap:=h',toks:=tk}):
  wpAny (model prog w) A.in1 (Builtin.«list.__init__» ⟨[.ref S,.ref I],[]⟩)
   (fun fin s'=>match fin with | .done f=>R (.ok f) s' | .again c'=>c'.quiet=true∧codeAny (model prog w) A c' R s') (fun e s'=>R (.error e) s') s:=by
 show wpAny _ _ (do let old ←Builtin.List.listItems (.ref S);Builtin.List.listUpdate (.ref S) (fun _=>#[]);letGo old.toList.reverse;Kb (.ref S) (.ref I) .none) _ _ s
 refine Aa ?_
 unfold Builtin.List.listItems
 refine Aa (Ib hS rfl (Ag ?_))
 show wpAny _ _ (updateSeq S (fun _=>#[]) >>=fun _=>letGo (#[]:Array Value).toList.reverse >>=fun _=>Kb (.ref S) (.ref I) .none) _ _ s
 refine Aa (wpAny_updateSeq hS rfl ?_)
 have hS₂:=Ds (Iw (fun _=>(#[]:Array Value))) hS rfl
 have oth:∀b o,b≠S→s.heap.get? b=some o→(s.heap.update S (Iw (fun _=>(#[]:Array Value)))).get? b=some o:=
  fun b o hb e=>(Dl _ _ (Ch hb)).trans e
 refine Aa (wpAny_letGo ?_)
 obtain⟨ol,hol,hol2⟩:=hl
 refine Y19 hh (hit.at fun o e=>oth _ o (Ch hSI) e) ⟨ol,oth _ ol (Ch hSl) hol,hol2⟩ hz hlI hSI hSl _ hS₂ fun h' tk acc c' ha hk hS'=>?_
 exact hR h' tk acc c' ha (fun b o hb hI e=>hk b o hb hI (oth b o hb e)) hS'
theorem Nw{I l:Addr}{items:Array Value}{Q:Value→Shared→Prop}(hh:A.handled=none)(hit:s.heap.IsRevIter I l ((items.size:Int) - 1))(hl:s.heap.IsList l items)(hz:items.size≤sizeLine)(hlI:l≠I)
  (hQ:∀h' tk acc c',ItemsOf (fun i v=>items[items.size - 1 - i]?=some v) acc items.size→(∀b u,b≠I→s.heap.get? b=some u→h'.get? b=some u)→h'.get? s.heap.objs.size=some {cls:= .type "list",dict:=none,data:= .seq acc c',slots:=#[]}→Q (.ref s.heap.objs.size) {s with heap:=h',toks:=tk}):
  wpAny (model prog w) A (call (.type "list") [.ref I]) Q E s:=by
 refine callType_codes (Q₁:=fun obj s₁=>obj= .ref s.heap.objs.size∧s₁={s with heap:=s.heap.push {cls:= .type "list",data:= .seq #[]}}) PySem.F.called_list (PySem.F.typeCall_list_1 _) PySem.F.entry_list_init
  (code_list_new _ ⟨rfl,rfl⟩) fun obj s₁ h₁=>?_
 obtain⟨rfl,rfl⟩:=h₁
 have hS:(s.heap.push {cls:= .type "list",data:= .seq #[]}).get? s.heap.objs.size=some {cls:= .type "list",data:= .seq #[]}:=Aq _ rfl
 obtain⟨oi,hoi,hoi2⟩:=id hit
 obtain⟨ol,hol,hol2⟩:=id hl
 refine⟨⟨_,hS,rfl⟩,PySem.F.args_list_init_2 _ _,Zh9 (A:=A.in1) hh (hit.at fun o e=>Ae _ e) ⟨ol,Ae _ hol,hol2⟩ hz hlI (Nat.ne_of_gt (Aj hoi)) (Nat.ne_of_gt (Aj hol)) hS (fun h' tk acc c' ha hk hS'=>?_)⟩
 exact⟨rfl,hQ h' tk acc c' ha (fun b o hI e=>hk b o (Nat.ne_of_lt (Aj e)) hI (Ae _ e)) hS'⟩
end
end SW
namespace L3
open PySem PySem.Spec PyProof.Rows L2
section
variable{X:Cx}{pins:List (Addr×Obj)}{σ:L2.St}{H:Hp}{s:Shared}
def Et(m:Nat)(p l:Addr)(n:Nat):Heap→Prop:=fun h=>h.IsRevIter p l ((n:Int) - 1)∧m≤p∧l≠p
noncomputable def del(H:Hp)(p:Addr):Hp:=fun b=>if b=p then none else H b
theorem Zg9{p S:Addr}(I:Inv X pins σ H s)(hp:H p=some (.ext φ))(hm:X.s₀.heap.objs.size≤p)(k:∀b u,b≠p→s.heap.get? b=some u→h'.get? b=some u)(hS:s.heap.objs.size≤S)(new:X6 X.prog X.w (upd (del H p) S o) h' S o):Inv X pins σ (upd (del H p) S o) {s with heap:=h',toks:=t'}:=by
 have ne:∀b,H b=none→b≠p:=fun b e z=>by subst z;rw[hp] at e;cases e
 have nS:H S=none:=I.hok.fresh hS
 have de:∀b o',H b=some o'→b≠p→upd (del H p) S o b=some o':=fun b o' e n=>by
  rw[Za (fun z=>by subst z;rw[nS] at e;cases e)]
  unfold del;rw[if_neg n];exact e
 refine I.step (g':=s.gens) (d':=s.drawn) (ch:=[p]) ?_ (fun b o _ _ hb e _=>k b o (by simpa using hb) e) (fun b o _ _ hb e _=>⟨o.slots,k b o (by simpa using hb) e⟩) (fun b o hb e n=>?_) (fun b o hb e=>⟨o,k b o (by simpa using hb) e⟩) (fun b xs e=>de b _ e fun z=>by subst z;rw[hp] at e;cases e) (fun b o u e=>de b _ e fun z=>by subst z;rw[hp] at e;cases e) (fun b ps e=>⟨#[],by rw[de b _ e fun z=>by subst z;rw[hp] at e;cases e];simp⟩) ?_ ?_ I.bare
 ·intro b hb
  cases Db.mp hb
  exact⟨.inr hm,fun z=>ne _ I.free z.symm,fun x c e z=>ne _ (I.freeC x c e) z,fun q hq z=>ne _ (I.pin q hq).2.1 z⟩
 ·rw[Za (Nat.ne_of_lt (Nat.lt_of_lt_of_le (Aj e) hS))]
  unfold del
  split
  ·rfl
  ·exact n
 ·rintro m ⟨o,es,ep,ho,r⟩
  exact⟨o,es,ep,k _ _ (ne _ I.free) ho,r⟩
 ·intro a o' e
  by_cases ha:a=S
  ·subst ha
   rw[Zs] at e
   cases e
   exact new
  rw[Za ha] at e
  have ea:a≠p:=fun z=>by subst z;unfold del at e;rw[if_pos rfl] at e;cases e
  have e':H a=some o':=by unfold del at e;rw[if_neg ea] at e;exact e
  refine(I.hok a o' e').stay (fun b u hb q=>k b u (fun z=>?_) q) (fun b hb=>de b _ hb fun z=>?_) fun b xs hb=>de b _ hb fun z=>?_
  ·subst z
   rcases hb with z | z
   ·exact ea z.symm
   ·rw[hp] at z;cases z
  ·subst z;rw[hp] at hb;cases hb
  ·subst z;rw[hp] at hb;cases hb
def rRev(X:Cx):List V→Hp→VK→Prop:=fun xs H Q=>∃l ys,xs=[V.ref l]∧SqL X.K H l ys∧∀p,H p=none→l≠p→Q (.ref p) (upd H p (.ext (Et X.s₀.heap.objs.size p l ys.length)))
theorem Zk7:Tw X (.type "reversed") (rRev X):=by
 intro pins s σ H xs us Q I r h
 obtain⟨l,ys,rfl,hl,q⟩:=h
 obtain⟨u,rfl,ru⟩:=Jc r
 cases ru
 obtain⟨its,rv,pl,hz⟩:=I.list hl
 have il:=pl.isList
 have lt:l<s.heap.objs.size:=by obtain⟨o,ho,_⟩:=il;exact Aj ho
 have hn:its.toArray.size=ys.length:=by rw[Ak,rv.length]
 refine call_reversed_list il ?_
 have it:(s.heap.push (revObj l ((its.toArray.size:Int) - 1))).IsRevIter s.heap.objs.size l ((ys.length:Int) - 1):=⟨_,Aq _ rfl,rfl,by rw[←hn];rfl⟩
 refine⟨.ref _,_,I.laid (a:=s.heap.objs.size) (o:= .ext (Et X.s₀.heap.objs.size s.heap.objs.size l ys.length)) (t':=s.toks) (fun b o e=>Ae _ e) (Nat.le_refl _) ⟨⟨it,I.sz,Nat.ne_of_lt lt⟩,⟨_,Aq _ rfl⟩,fun h1 h2 zz64 k=>by obtain⟨a1,a2⟩:=zz64;exact⟨a1.at k,a2⟩⟩,rfl,q _ (I.hok.fresh (Nat.le_refl _)) (Nat.ne_of_lt lt)⟩
def Y37(X:Cx):List V→Hp→VK→Prop:=fun xs H Q=>∃p l ys,xs=[V.ref p]∧H p=some (.ext (Et X.s₀.heap.objs.size p l ys.length))∧SqL X.K H l ys∧∀S,H S=none→Q (.ref S) (upd (del H p) S (.lst ys.reverse))
theorem Bq(hc:X.calm=true):Tw X (.type "list") (Y37 X):=by
 intro pins s σ H xs us Q I r h
 obtain⟨p,l,ys,rfl,hp,hl,q⟩:=h
 obtain⟨u,rfl,ru⟩:=Jc r
 cases ru
 obtain⟨⟨it,hm,hlp⟩,_,_⟩:=I.hok p _ hp
 obtain⟨its,rv,pl,hz⟩:=I.list hl
 have hn:its.toArray.size=ys.length:=by rw[Ak,rv.length]
 refine SW.Nw (I.ok.hd hc) (by rw[hn];exact it) pl.isList (by rw[hn];exact hz) hlp fun h' tk acc c ha k g=>?_
 have e:acc=acc.toList.toArray:=by simp
 rw[e] at g
 refine⟨.ref _,_,Zg9 (t':=tk) I hp hm k (Nat.le_refl _) (o:= .lst ys.reverse) ⟨by rw[List.length_reverse];exact hz,acc.toList,c,?_,g⟩,rfl,q _ (I.hok.fresh (Nat.le_refl _))⟩
 have el:acc.toList=its.reverse:=by
  refine List.ext_getElem? fun i=>?_
  by_cases hi:i<its.length
  ·obtain⟨v,hv⟩:∃v,acc.toList[i]?=some v:=⟨_,Ai (by rw[Ku,ha.1];simpa using hi)⟩
   have:=ha.2 i v (by rw[←Array.getElem?_toList];exact hv)
   rw[hv,List.getElem?_reverse hi,←this]
   simp
  ·rw[Ik (by rw[Ku,ha.1];simpa using hi),Ik (by simpa using hi)]
 rw[el]
 exact rv.reverse
end
section
variable{X:Cx}{pins:List (Addr×Obj)}{σ:L2.St}{H:Hp}{s:Shared}
theorem Zh8(I:Inv X pins σ H s)(hu:X.A.units+64<cLine)(neg:Bool){p b:Addr}(hp:SqL X.K H p vs)(hb:SqL X.K H b [])(q:Q (.bl (if neg then !vs.isEmpty else vs.isEmpty)) H):
  wpAny (model X.prog X.w) X.A (compareOp (if neg then .NotEq else .Eq) (.ref p) (.ref b)) (EP X pins σ Q) X.xe s:=by
 obtain⟨its,r,pl,_⟩:=I.list hp
 obtain⟨jts,r2,pl2,_⟩:=I.list hb
 have l2:jts=[]:=by cases r2;rfl
 subst l2
 cases vs with
 | nil=>
  cases r
  cases neg with
  | true=>exact SeqAt.RcNeAt.lists (e:=fun _=>true) pl.isList pl2.isList rfl (by omega) (fun j h=>absurd h (Nat.not_lt_zero _)) _ _ _ _ ⟨.bl _,H,I,rfl,q⟩
  | false=>exact SeqAt.RcAt.lists (e:=fun _=>true) pl.isList pl2.isList rfl (by omega) (fun j h=>absurd h (Nat.not_lt_zero _)) _ _ _ _ ⟨.bl _,H,I,rfl,q⟩
 | cons v vs=>
  have hz:(its.toArray.size !=([]:List Value).toArray.size)=true:=by
   cases r
   rfl
  cases neg with
  | true=>exact SeqAt.RcNeAt.lists_lengths pl.isList pl2.isList hz (by omega) _ _ _ _ ⟨.bl _,H,I,rfl,q⟩
  | false=>exact SeqAt.RcAt.lists_lengths pl.isList pl2.isList hz (by omega) _ _ _ _ ⟨.bl _,H,I,rfl,q⟩
theorem Zv5(I:Inv X pins σ H s)(hu:X.A.units+64<cLine)(neg:Bool){a b:Addr}(ha:SqT X.K H a vs)(hb:SqT X.K H b ys)(fa:vs.all Ws=true)(fb:ys.all Ws=true)(q:Q (.bl (if neg then !eqVs vs ys else eqVs vs ys)) H):
  wpAny (model X.prog X.w) X.A (compareOp (if neg then .NotEq else .Eq) (.ref a) (.ref b)) (EP X pins σ Q) X.xe s:=by
 obtain⟨us,ru,ta,_⟩:=I.tuple ha
 obtain⟨ws,rw',tb,_⟩:=I.tuple hb
 have l1:=ru.length
 have l2:=rw'.length
 have he:∀j (h1:j<us.toArray.size) (h2:j<ws.toArray.size),Dt X.A.in1 s us.toArray[j] ws.toArray[j] (eqV (vs.getD j .non) (ys.getD j .non)):=fun j h1 h2=>by
  have j1:j<vs.length:=by rw[Ak] at h1;omega
  have j2:j<ys.length:=by rw[Ak] at h2;omega
  obtain⟨u,e1,r1⟩:=ru.get (Ai j1)
  obtain⟨w,e2,r2⟩:=rw'.get (Ai j2)
  have x1:us.toArray[j]=u:=by have:=(Af.mp e1).2;simpa using this
  have x2:ws.toArray[j]=w:=by have:=(Af.mp e2).2;simpa using this
  rw[x1,x2,Hv,Hv,Ai j1,Ai j2]
  rw[Hy] at fa fb
  exact Ba r1 r2 (fa _ (Ht j1)) (fb _ (Ht j2))
 have hs:((Hz (min us.toArray.size ws.toArray.size)).all (fun j=>eqV (vs.getD j .non) (ys.getD j .non))&&us.toArray.size==ws.toArray.size)=eqVs vs ys:=by
  unfold eqVs
  rw[Ak,Ak,l1,l2]
 cases neg with
 | true=>exact SeqAt.RcNeAt.tuples (e:=fun j=>eqV (vs.getD j .non) (ys.getD j .non)) ta tb (by omega) he _ _ _ _ ⟨.bl _,H,I,rfl,by rw[hs];exact q⟩
 | false=>exact SeqAt.RcAt.tuples (e:=fun j=>eqV (vs.getD j .non) (ys.getD j .non)) ta tb (by omega) he _ _ _ _ ⟨.bl _,H,I,rfl,by rw[hs];exact q⟩
end
section
variable{prog:Program}{w:World}{K:Type}[DecidableEq K]{knd:HeapKind prog w K}{A:Around}{E:Value→Shared→Prop}{s:Shared}
theorem Zz5{d a:Addr}{xs:List (K×Addr×Value)}{k:K}{dflt:Value}{Q:Value→Shared→Prop}(hu:knd.room A)(hkey:knd.is s.heap k a)(hm:s.heap.DictOfH knd d xs)
  (h1:∀p,atKey xs k=some p→Q p.2 {s with toks:=s.toks+knd.draws k})
  (h2:atKey xs k=none→∀h',h'.DictOfH knd d (storedH xs k a dflt)→Il d s.heap h'→Q dflt {s with heap:=h',toks:=s.toks+knd.draws k})
  (hsz:xs.length≤sizeLine):wpAny (model prog w) A (dictSetDefault d (.ref a) dflt) Q E s:=by
 obtain⟨o,es,ep,ho,hc,hd,he,his,hn⟩:=hm
 unfold dictSetDefault
 try with_reducible refine Kg ?_
 refine Aa (knd.pyHash hu hkey (Aa (wpAny_dictFind_heap (s:={s with toks:=s.toks+knd.draws k}) hu hkey ho hd he his hn ?_ ?_)))
 ·intro hno
  have hnot:k∉xs.map (·.1):=not_mem_keys_of_get hno
  refine Aa (Ls (Aa (wpAny_updateDictKeys (hz:=by have e:=size_of_entries he;omega) (s:={s with toks:=s.toks+knd.draws k}) ho hd (Ag (h2 (atKey_none_of_get hno) _ ⟨_,_,ep+1,Ds _ ho (Obj.isFreed_of_dict (Obj.data_mapDictKeys hd _)),
   hc.mapDictKeys _,Obj.data_mapDictKeys hd _,?_,?_,?_⟩ (Kx ..))))))
  ·rw[storedH_new (atKey_none_of_get hno)]
   simp[he,entryOfKey]
  ·rw[storedH_new (atKey_none_of_get hno)]
   intro x hx
   rcases Ho.mp hx with hx | hx
   ·exact knd.keeps (his x hx) ho hd (Kx ..)
   ·simp only[Db] at hx
    subst hx
    exact knd.keeps hkey ho hd (Kx ..)
  ·rw[storedH_new (atKey_none_of_get hno)]
   rw[Az,List.nodup_append]
   refine⟨hn,by simp,?_⟩
   intro x hx y hy
   simp only[Dd,Ih,Db] at hy
   subst hy
   exact fun e=>hnot (e ▸ hx)
 ·intro j p hj
  refine Aa (wpAny_dictEntries (s:={s with toks:=s.toks+knd.draws k}) ho hd ?_)
  rw[entry_at he j,hj]
  exact Aa (Ls (Ag (h1 _ (atKey_of_get hn hj))))
theorem Jb(knd:HeapKind prog w K)(d a:Addr)(hd:(d==sysModules)=false)(dflt:Value):
  MeetsIn prog w (Builtin.«dict.setdefault» ⟨[.ref d,.ref a,dflt],[]⟩) (fun A R s=>knd.room A.in1∧∃k xs,knd.is s.heap k a∧s.heap.DictOfH knd d xs∧xs.length≤sizeLine∧
   (∀p,atKey xs k=some p→R (.ok (.ret p.2)) {s with toks:=s.toks+knd.draws k})∧
   (atKey xs k=none→∀h',h'.DictOfH knd d (storedH xs k a dflt)→Il d s.heap h'→R (.ok (.ret dflt)) {s with heap:=h',toks:=s.toks+knd.draws k})):=
 .of_wp fun A R s ⟨hu,k,xs,hkey,hm,hz,h1,h2⟩=>by
  unfold Builtin.«dict.setdefault»
  refine Aa ?_
  unfold Builtin.Dict.keyAndDefault
  refine Aa (wpAny_notOrdered_dict hm.typeIs ?_)
  show wpAny _ _ (pure (d,Value.ref a,some dflt)) _ _ s
  refine Ag ?_
  show wpAny _ _ (if (d==sysModules)=true then _ else(dictSetDefault d (.ref a) dflt >>=_)) _ _ s
  rw[if_neg (by rw[hd];exact Bool.false_ne_true)]
  exact Aa (Zz5 (hsz:=hz) hu hkey hm (fun p hp=>Ag ⟨p.2,rfl,h1 p hp⟩) fun hn h' hm' hs'=>Ag ⟨dflt,rfl,h2 hn h' hm' hs'⟩)
end
section
variable{X:Cx}{pins:List (Addr×Obj)}{σ:L2.St}{H:Hp}{s:Shared}{a b:Addr}{d:V}{r:Value}{A:Around}{E:Value→Shared→Prop}
theorem Zm1{k:List Key}(hu:A.units+1<cLine)(I:Inv X pins σ H s)(e:H a=some (.dT kvs))(eb:H b=some (.tup (k.map kV)))(hl:kvs.length<sizeLine)(rd:RelV d r)
  (h1:∀v w' s',valV kvs k=some v→Inv X pins σ H s'→RelV v w'→Q w' s')
  (h2:∀s',valV kvs k=none→Inv X pins σ (upd H a (.dT (putK kvs k d))) s'→Q r s'):
  wpAny (model X.prog X.w) A (call (.builtin "dict.setdefault") [.ref a,.ref b,r]) Q E s:=by
 obtain⟨z,hd,xs,rel,dd⟩:=Ya1 I.hok e
 have hz:xs.length≤sizeLine:=by rw[←Paired.length rel];exact z
 have hp:(putK kvs k d).length≤sizeLine:=by have:=Wf kvs k d;omega
 refine call_meetsIn PySem.F.slot_dict_setdefault dd.typeIs PySem.F.entry_dict_setdefault (PySem.F.args_dict_setdefault_3 _ _ _) (Jb (tupleKind (Ye X.prog X.w)) a b hd r) ⟨Ka hu,k,xs,Qk I.hok eb,dd,hz,fun p hp=>?_,fun hn h' dd' hs=>?_⟩
 ·have rv:=rel.val k
  cases l:valV kvs k with
  | none=>rw[l] at rv;rw[hp] at rv;exact absurd (RelO.none_of rv) (by simp)
  | some v=>
   rw[l] at rv
   obtain⟨w',hw,rw'⟩:=RelO.some_of rv
   rw[hp] at hw
   cases hw
   exact h1 v _ _ l (I.tok _) rw'
 ·have rv:=rel.val k
  have l:valV kvs k=none:=by
   cases l:valV kvs k with
   | none=>rfl
   | some v=>
    rw[l] at rv
    obtain⟨w',hw,rw'⟩:=RelO.some_of rv
    rw[hn] at hw
    cases hw
  refine h2 _ l ?_
  obtain⟨q,es,ep,hq,g2,g3,g4,_,g5⟩:=dd'
  refine J8 I (by rw[e];exact Dy) hs ⟨q,hq⟩ ⟨hp,hd,_,(rel.put k eb rd).keeps fun c ys ec=>?_,q,es,ep,hq,g2,g3,g4,g5⟩
  rw[Za (Y84 ec e (fun z=>nomatch z))]
  exact ec
end
noncomputable def Itdn(lo:Int)(n:Nat):L2.It:=⟨fun i _=>i<n,fun i H x H'=>H'=H∧x= .int (lo - i),fun i _=>n≤i⟩
theorem Z46{K:Ab}(it:Addr)(lo:Int)(n:Nat):Turn P w K tg (Itdn lo n) [it] it (fun i h=>IsRangeIter h it (lo+(i:Nat) * (-1)) ((n:Int) - (i:Nat)) (-1)) where
 mem:=by simp
 obj:=fun i h st b hb=>by
  have e:b=it:=by simpa using hb
  subst e
  exact⟨_,st,fun v z=>by
   have z':Data.fields _=Data.cell v:=z
   cases z'⟩
 keep:=fun i h h' st k=>k it (by simp) _ st
 item:=by
  intro X hP hw hK hc i pins s σ H E I hf st hg
  subst hP hw hK
  obtain⟨f0,f1,f2,f3,f4,f5⟩:=hf it (by simp)
  have W:=Walks.range (prog:=X.prog) (w:=X.w) (I.ok.hd hc) it lo (-1) n
  refine W.item i s _ _ hg st fun v h' tk hv st' kk=>?_
  obtain⟨t,rfl⟩:=hv
  have I1:Inv X pins σ H {s with heap:=h',toks:=tk}:=I.turned (fun b o hb e=>kk b o (by simpa using hb) e) f0 f1 f3 f4 f5
  refine⟨_,rfl,Z52 (s:={s with heap:=h',toks:=tk}) (n:="range_iterator") st' rfl rfl (by decide) ⟨.int (lo - i),H,I1,⟨t,?_⟩,⟨rfl,rfl⟩,st',fun b hb=>(hf b hb).1⟩⟩
  congr 1
  omega
 done:=by
  intro X hP hw hK hc i pins s σ H E I hf st hg
  subst hP hw hK
  obtain⟨f0,f1,f2,f3,f4,f5⟩:=hf it (by simp)
  exact wpAny_pyNext_range_end (I.ok.hd hc) st (by have:n≤i:=hg;omega) fun h' eb=>⟨rfl,I.turned (t':=s.toks) (fun b o hb e=>eb b o hb e) f0 f1 f3 f4 f5⟩
 self:=fun _ _ _ _ _ st h=>wpAny_pyIter_rangeiter st h
section
variable{X:Cx}{tg:Expr}
theorem Y33{pins:List (Addr×Obj)}{σ:L2.St}{H:Hp}{s:Shared}{R:L2.It→Hp→Prop}{E:Value→Shared→Prop}{lo hi:Int}{t u v:Tok}{tk:Nat}(I:Inv X pins σ H s)(h1:-(2 ^ 62)≤lo)(h2:lo<2 ^ 62)(h3:-(2 ^ 62)≤hi)(h4:hi<2 ^ 62)
  (q:R (Itdn lo (lo - hi).toNat) H):wpAny (model X.prog X.w) X.A (pyIter (.ref s.heap.objs.size)) (PIE X pins σ tg R) E {s with heap:=s.heap.push {cls:= .type "range",data:= .fields #[.int lo t,.int hi u,.int (-1) v]},toks:=tk}:=by
 refine wpAny_pyIter_range (IsRange.new ..) (PySem.W.small_down h1 h2 h3 h4) ?_
 have I1:Inv X pins σ H {s with heap:=s.heap.push {cls:= .type "range",data:= .fields #[.int lo t,.int hi u,.int (-1) v]},toks:=tk}:=I.kept fun b o e=>Ae _ e
 refine⟨(s.heap.push {cls:= .type "range",data:= .fields #[.int lo t,.int hi u,.int (-1) v]}).objs.size,[(s.heap.push {cls:= .type "range",data:= .fields #[.int lo t,.int hi u,.int (-1) v]}).objs.size],_,_,H,rfl,
  I1.kept (t':=tk) fun b o e=>Ae _ e,Z46 _ lo (lo - hi).toNat,?_,fun b hb=>?_,q⟩
 ·have e1:lo+((0:Nat):Int) * (-1)=lo:=by simp
  have e2:(((lo - hi).toNat:Nat):Int) - ((0:Nat):Int)=Builtin.Range.rangeSize lo hi (-1):=by rw[PySem.W.rangeSize_downNat];omega
  show IsRangeIter _ _ (lo+((0:Nat):Int) * (-1)) ((((lo - hi).toNat:Nat):Int) - ((0:Nat):Int)) (-1)
  rw[e1,e2]
  exact Aq _ rfl
 ·have e:b=(s.heap.push {cls:= .type "range",data:= .fields #[.int lo t,.int hi u,.int (-1) v]}).objs.size:=by simpa using hb
  subst e
  exact I1.fpOk (Nat.le_refl _) (I1.hok.fresh (Nat.le_refl _))
def Ye9(ta:TA):TI:=fun σ H R=>ta σ H fun vs H1=>∃i j:Int,vs=[.int i,.int j,.int (-1)]∧(-(2 ^ 62)≤i∧i<2 ^ 62∧ -(2 ^ 62)≤j∧j<2 ^ 62)∧R (Itdn i (i - j).toNat) H1
theorem Z58{a b c:Expr}{p pos:Pos}(hg:Gl X "range")(hm:X.mg "range"=none)(ha:PA X [a,b,c] ta)(hs:starEach [a,b,c] X.env=(false,eval a X.env)::starEach [b,c] X.env)(hs2:(backTo pos (starEach [b,c] X.env)).any (·.1)=false):
  PI X tg (.Call (.Name "range" p) [a,b,c] [] pos) (Ye9 ta):=by
 intro pins s σ H R I h
 refine Call_ (Rj I hg hm boot_range (Hr (thn (ha pos pins s σ H _ I h) fun us s1 zz66=>?_) hs hs2))
 obtain⟨vs,H1,I1,r1,q1⟩:=zz66
 obtain⟨i,j,e,⟨q1,q2,q3,q4⟩,q⟩:=q1
 subst e
 cases r1 with
 | cons r rr=>
  cases rr with
  | cons r' rr=>
   cases rr with
   | cons r'' rr=>
    cases rr
    obtain⟨t,rfl⟩:=r
    obtain⟨t',rfl⟩:=r'
    obtain⟨t'',rfl⟩:=r''
    exact call_range_3 (by decide) (Y33 I1 q1 q2 q3 q4 q) (Or.inl (PyProof.noPylong_small (by omega)))
end
end L3
namespace ZT
open PySem PyProof.Rows
structure Nx(P:Program)(w:World)(i l:Addr)(its:Array Value)(St:Nat→Heap→Prop):Prop where
 obj:∀k h,St k h→∃o,h.get? i=some o∧o.cls≠ .type "zip"∧∀v,o.data≠ .cell v
 stay:∀k h h',St k h→(∀b o,b=i∨b=l→h.get? b=some o→h'.get? b=some o)→St k h'
 item:∀{A:Around} {E:Value→Shared→Prop} {s:Shared} {k:Nat} {x:Value} {Q:Value→Shared→Prop},St k s.heap→its[k]?=some x→(∀h',St (k+1) h'→Il i s.heap h'→Q x {s with heap:=h'})→wpAny (model P w) A (Hd (.ref i)) Q E s
 done:∀{A:Around} {E:Value→Shared→Prop} {s:Shared} {k:Nat} {Q:Value→Shared→Prop},A.handled=none→St k s.heap→its[k]?=none→(∀h' e,(∀c o,c≠i→s.heap.get? c=some o→h'.get? c=some o)→(∃o,h'.get? e=some o∧o.cls= .type "StopIteration")→E (.ref e) {s with heap:=h'})→wpAny (model P w) A (Hd (.ref i)) Q E s
section
variable{prog:Program}{w:World}{A:Around}{E:Value→Shared→Prop}{s:Shared}
theorem Nx.tuple{i l:Addr}(hne:l≠i)(its:Array Value):Nx prog w i l its (fun k h=>h.IsTupleIter i l k∧h.IsTuple l its) where
 obj:=fun k h zz67=>by obtain⟨⟨o,e,c,d⟩,_⟩:=zz67;exact⟨o,e,by rw[c];decide,fun v z=>by rw[d] at z;cases z⟩
 stay:=fun k h h' zz68 q=>by obtain⟨⟨o,e,r⟩,⟨u,e2,r2⟩⟩:=zz68;exact⟨⟨o,q i o (.inl rfl) e,r⟩,⟨u,q l u (.inr rfl) e2,r2⟩⟩
 item:=by
  rintro A E s k x Q ⟨a,b⟩ hx q
  obtain⟨o,ho,hc,hd⟩:=id a
  obtain⟨ol,hol,hcl,nl,hdl⟩:=id b
  unfold Hd
  refine Aa (Iq (name:=Str.ofString "__next__") a.typeIs F.slot_tuple_iterator_next (Li F.slot_tuple_iterator_next a.typeIs F.entry_tuple_iterator_next ?_ (F.args_tuple_iterator_next_1 _)))
  show wpAny _ _ (field (.ref i) 0 >>=_) _ _ s
  refine Aa (Ex ho hd (x:= .ref l) rfl ?_)
  show wpAny _ _ (if (Value.ref l==Value.none)=true then _ else _) _ _ s
  rw[if_neg (by exact Bool.false_ne_true)]
  show wpAny _ _ (field (.ref i) 1 >>=_) _ _ s
  refine Aa (Ex ho hd (x:= .int k 0) rfl ?_)
  show wpAny _ _ (seqItems? (.ref l) >>=_) _ _ s
  refine Aa (Ib hol hdl ?_)
  simp only[Io,hx]
  have sb:=Kx s.heap i (Ki (·.setIfInBounds 1 (rawInt ((k:Int)+1))))
  refine Aa (Lq ho hd (by simp) (Ag ⟨x,rfl,Ag (q _ ⟨?_,b.extBut sb.extBut hne⟩ sb)⟩))
  exact⟨_,Ds _ ho (Ke (Ij hd _)),(Obj.cls_mapFields ..).trans hc,by rw[Ij hd];simp[rawInt]⟩
 done:=by
  rintro A E s k Q hh ⟨a,b⟩ hx q
  obtain⟨o,ho,hc,hd⟩:=id a
  obtain⟨ol,hol,hcl,nl,hdl⟩:=id b
  unfold Hd
  refine Aa (Iq (name:=Str.ofString "__next__") a.typeIs F.slot_tuple_iterator_next (Li F.slot_tuple_iterator_next a.typeIs F.entry_tuple_iterator_next ?_ (F.args_tuple_iterator_next_1 _)))
  show wpAny _ _ (field (.ref i) 0 >>=_) _ _ s
  refine Aa (Ex ho hd (x:= .ref l) rfl ?_)
  show wpAny _ _ (if (Value.ref l==Value.none)=true then _ else _) _ _ s
  rw[if_neg (by exact Bool.false_ne_true)]
  show wpAny _ _ (field (.ref i) 1 >>=_) _ _ s
  refine Aa (Ex ho hd (x:= .int k 0) rfl ?_)
  show wpAny _ _ (seqItems? (.ref l) >>=_) _ _ s
  refine Aa (Ib hol hdl ?_)
  simp only[Io,hx]
  refine Aa (Ls (Aa (Lq ho hd (by simp) ?_)))
  refine SW.Zh1 (A:=A.in1) hh fun h' e kp he=>q h' e (fun c u hc2 z=>kp c u ((Kx ..).extBut c u hc2 z)) he
structure Ap(z TI TO i1 i2 l1 l2:Addr):Prop where
 z1:TI≠z∧TO≠z∧i1≠z∧i2≠z∧l1≠z∧l2≠z
 z2:TI≠TO∧i1≠TO∧i2≠TO∧l1≠TO∧l2≠TO
 z3:TI≠i1∧i2≠i1∧l1≠i1∧l2≠i1
 z4:TI≠i2∧l1≠i2∧l2≠i2
variable{z TI TO i1 i2 l1 l2:Addr}{xs ys:Array Value}{S1 S2:Nat→Heap→Prop}
theorem Nf{T:Addr}{a b x:Value}{k:Nat}{Q:Unit→Shared→Prop}(hT:IsPair s.heap T a b)
  (h:∀h',h'.get? T=some {cls:= .type "tuple",data:= .seq ((#[a,b]:Array Value).setIfInBounds k x)}→Il T s.heap h'→Q () {s with heap:=h'}):wpAny (model prog w) A (updateSeq T (·.setIfInBounds k x)) Q E s:=wpAny_updateSeq_pair hT h
theorem Y50{k:Nat}{x y a b:Value}{Q:Value→Shared→Prop}(D:Ap z TI TO i1 i2 l1 l2)(N1:Nx prog w i1 l1 xs S1)(N2:Nx prog w i2 l2 ys S2)
  (hz:IsZip s.heap z TI TO .none) (hI:IsPair s.heap TI (.ref i1) (.ref i2)) (hO:IsPair s.heap TO a b) (h1:S1 k s.heap) (h2:S2 k s.heap) (hx:xs[k]?=some x) (hy:ys[k]?=some y)
  (q:∀h',IsZip h' z TI TO (rawInt s.heap.objs.size)→IsPair h' TO x y→S1 (k+1) h'→S2 (k+1) h'→IsPair h' s.heap.objs.size x y→h'.objs.size=s.heap.objs.size+1→(∀c o,c≠z→c≠TO→c≠i1→c≠i2→s.heap.get? c=some o→h'.get? c=some o)→Q (.ref s.heap.objs.size) {s with heap:=h'}):
  wpAny (model prog w) A (Builtin.«zip.__next__» ⟨[.ref z],[]⟩) (fun fin s'=>∃v,fin= .done (.ret v)∧Q v s') E s:=by
 obtain⟨⟨d1,d2,d3,d4,d5,d6⟩,⟨e1,e2,e3,e4,e5⟩,⟨f1,f2,f3,f4⟩,g1,g2,g3⟩:=D
 show wpAny _ _ (field (.ref z) 2 >>=_) _ _ _
 refine Aa (Ex (x:= .bool false) hz rfl rfl ?_)
 show wpAny _ _ (field (.ref z) 3 >>=_) _ _ _
 refine Aa (Ex (x:= .ref TI) hz rfl rfl (Aa (Ib hI rfl ?_)))
 show wpAny _ _ (Ic (.ref z) >>=_) _ _ _
 refine Aa ?_
 unfold Ic
 refine Aa (Ex (x:= .none) hz rfl rfl (Ag ?_))
 simp only[if_true]
 refine Aa (Ls (Aa (Ex (x:= .ref TO) hz rfl rfl (Aa (Le hz (by simp) fun ha za sa=>?_)))))
 replace za:IsZip ha z TI TO .ellipsis:=za
 refine Aa ?_
 simp only[List.zipIdx_cons,List.zipIdx_nil,Ld,List.forIn_nil]
 refine Aa (Aa (wpAny_onRaise ?_))
 show wpAny _ _ (Hd (.ref i1) >>=_) _ _ _
 have h1a:S1 k ha:=N1.stay _ _ _ h1 fun c o hc e=>sa.extBut c o (by rcases hc with rfl | rfl<;>assumption) e
 have h2a:S2 k ha:=N2.stay _ _ _ h2 fun c o hc e=>sa.extBut c o (by rcases hc with rfl | rfl<;>assumption) e
 refine Aa (N1.item h1a hx fun hb h1b sb=>Ag ?_)
 have Ob:IsPair hb TO a b:=sb.extBut _ _ (Ch e2) (sa.extBut _ _ d2 hO)
 have h2b:S2 k hb:=N2.stay _ _ _ h2a fun c o hc e=>sb.extBut c o (by rcases hc with rfl | rfl<;>assumption) e
 refine Aa (Ib Ob rfl (Aa (Nf Ob fun hc Oc sc=>?_)))
 replace Oc:IsPair hc TO x b:=Oc
 refine Aa (wpAny_letGo (Ag ?_))
 refine Aa (Aa (wpAny_onRaise ?_))
 show wpAny _ _ (Hd (.ref i2) >>=_) _ _ _
 have h2c:S2 k hc:=N2.stay _ _ _ h2b fun c o hc e=>sc.extBut c o (by rcases hc with rfl | rfl<;>assumption) e
 have h1c:S1 (k+1) hc:=N1.stay _ _ _ h1b fun c o hc e=>sc.extBut c o (by rcases hc with rfl | rfl<;>assumption) e
 refine Aa (N2.item h2c hy fun hd h2d sd=>Ag ?_)
 have Od:IsPair hd TO x b:=sd.extBut _ _ (Ch e3) Oc
 have h1d:S1 (k+1) hd:=N1.stay _ _ _ h1c fun c o hc e=>sd.extBut c o (by rcases hc with rfl | rfl;exact Ch f2;assumption) e
 refine Aa (Ib Od rfl (Aa (Nf Od fun he Oe se=>?_)))
 replace Oe:IsPair he TO x y:=Oe
 refine Aa (wpAny_letGo (Ag (Ag ?_)))
 refine Aa (Ib Oe rfl (Aa (wpAny_newTuple ?_)))
 have h1e:S1 (k+1) he:=N1.stay _ _ _ h1d fun c o hc e=>se.extBut c o (by rcases hc with rfl | rfl<;>assumption) e
 have h2e:S2 (k+1) he:=N2.stay _ _ _ h2d fun c o hc e=>se.extBut c o (by rcases hc with rfl | rfl<;>assumption) e
 have sz:he.objs.size=s.heap.objs.size:=by rw[se.1,sd.1,sc.1,sb.1,sa.1]
 have ze:IsZip he z TI TO .ellipsis:=se.extBut _ _ (Ch d2) (sd.extBut _ _ (Ch d4) (sc.extBut _ _ (Ch d2) (sb.extBut _ _ (Ch d3) za)))
 have ke:∀c o,c≠z→c≠TO→c≠i1→c≠i2→s.heap.get? c=some o→he.get? c=some o:=fun c o c1 c2 c3 c4 e=>
  se.extBut _ _ c2 (sd.extBut _ _ c4 (sc.extBut _ _ c2 (sb.extBut _ _ c3 (sa.extBut _ _ c1 e))))
 have lz:z<he.objs.size:=Aj ze
 show wpAny _ _ (Builtin.SmallTypes.ownedTupleHandOut (.ref z) (.ref he.objs.size) >>=_) _ _ _
 refine Aa ?_
 unfold Builtin.SmallTypes.ownedTupleHandOut
 have zf:IsZip (he.push {cls:= .type "tuple",data:= .seq #[x,y]}) z TI TO .ellipsis:=Ae _ ze
 refine Aa (Le zf (by simp) fun hg zg sg=>?_)
 replace zg:IsZip hg z TI TO (rawInt he.objs.size):=zg
 refine Le zg (by simp) fun hh zh sh=>?_
 replace zh:IsZip hh z TI TO (rawInt he.objs.size):=zh
 have up:∀c o,c≠z→he.get? c=some o→hh.get? c=some o:=fun c o c1 e=>sh.extBut _ _ c1 (sg.extBut _ _ c1 (Ae _ e))
 have Th:IsPair hh he.objs.size x y:=sh.extBut _ _ (Nat.ne_of_gt lz) (sg.extBut _ _ (Nat.ne_of_gt lz) (Aq _ rfl))
 have zs:hh.objs.size=he.objs.size+1:=by rw[sh.1,sg.1,Ia]
 rw[sz] at zh Th zs
 refine Ag ⟨_,rfl,?_⟩
 show Q (.ref he.objs.size) _
 rw[sz]
 exact q hh zh (up _ _ d2 Oe) (N1.stay _ _ _ h1e fun c o hc e=>up c o (by rcases hc with rfl | rfl<;>assumption) e) (N2.stay _ _ _ h2e fun c o hc e=>up c o (by rcases hc with rfl | rfl<;>assumption) e) Th zs fun c o c1 c2 c3 c4 e=>up c o c1 (ke c o c1 c2 c3 c4 e)
theorem Yd6{k:Nat}{a b:Value}{Q:Fin→Shared→Prop}(hh:A.handled=none)(D:Ap z TI TO i1 i2 l1 l2)(N1:Nx prog w i1 l1 xs S1)(N2:Nx prog w i2 l2 ys S2)
  (hz:IsZip s.heap z TI TO .none) (hI:IsPair s.heap TI (.ref i1) (.ref i2)) (hO:IsPair s.heap TO a b) (h1:S1 k s.heap) (h2:S2 k s.heap) (hend:xs[k]?=none∨ys[k]?=none)
  (q:∀h' e,(∀c o,c≠z→c≠TO→c≠i1→c≠i2→s.heap.get? c=some o→h'.get? c=some o)→(∃o,h'.get? e=some o∧o.cls= .type "StopIteration")→E (.ref e) {s with heap:=h'}):
  wpAny (model prog w) A (Builtin.«zip.__next__» ⟨[.ref z],[]⟩) Q E s:=by
 obtain⟨⟨d1,d2,d3,d4,d5,d6⟩,⟨e1,e2,e3,e4,e5⟩,⟨f1,f2,f3,f4⟩,g1,g2,g3⟩:=D
 show wpAny _ _ (field (.ref z) 2 >>=_) _ _ _
 refine Aa (Ex (x:= .bool false) hz rfl rfl ?_)
 show wpAny _ _ (field (.ref z) 3 >>=_) _ _ _
 refine Aa (Ex (x:= .ref TI) hz rfl rfl (Aa (Ib hI rfl ?_)))
 show wpAny _ _ (Ic (.ref z) >>=_) _ _ _
 refine Aa ?_
 unfold Ic
 refine Aa (Ex (x:= .none) hz rfl rfl (Ag ?_))
 simp only[if_true]
 refine Aa (Ls (Aa (Ex (x:= .ref TO) hz rfl rfl (Aa (Le hz (by simp) fun ha za sa=>?_)))))
 replace za:IsZip ha z TI TO .ellipsis:=za
 refine Aa ?_
 simp only[List.zipIdx_cons,List.zipIdx_nil,Ld,List.forIn_nil]
 refine Aa (Aa (wpAny_onRaise ?_))
 show wpAny _ _ (Hd (.ref i1) >>=_) _ _ _
 have h1a:S1 k ha:=N1.stay _ _ _ h1 fun c o hc e=>sa.extBut c o (by rcases hc with rfl | rfl<;>assumption) e
 have h2a:S2 k ha:=N2.stay _ _ _ h2 fun c o hc e=>sa.extBut c o (by rcases hc with rfl | rfl<;>assumption) e
 have fin:∀(h2:Heap) (e:Addr),IsZip h2 z TI TO .ellipsis→(∀c o,c≠z→c≠TO→c≠i1→c≠i2→s.heap.get? c=some o→h2.get? c=some o)→(∃o,h2.get? e=some o∧o.cls= .type "StopIteration")→wpAny (model prog w) A (setField (.ref z) 0 .none) (fun _ s'=>E (.ref e) s') E {s with heap:=h2}:=by
  rintro h2 e zz kp ⟨o,ho,hc⟩
  refine Le zz (by simp) fun h3 _ s3=>q h3 e (fun c o c1 c2 c3 c4 x=>s3.extBut _ _ c1 (kp c o c1 c2 c3 c4 x)) ⟨o,s3.extBut _ _ ?_ ho,hc⟩
  rintro rfl
  rw[zz] at ho
  cases ho
  exact absurd (show Value.type "zip"=Value.type "StopIteration" from hc) (by decide)
 cases hx:xs[k]? with
 | none=>
  refine Aa (N1.done (s:={s with heap:=ha}) hh h1a hx fun hb e kb he=>?_)
  exact fin hb e (kb _ _ (Ch d3) za) (fun c o c1 _ c3 _ x=>kb _ _ c3 (sa.extBut _ _ c1 x)) he
 | some x=>
  have hy:ys[k]?=none:=hend.resolve_left (by rw[hx];intro z;cases z)
  refine Aa (N1.item (s:={s with heap:=ha}) h1a hx fun hb h1b sb=>Ag ?_)
  have Ob:IsPair hb TO a b:=sb.extBut _ _ (Ch e2) (sa.extBut _ _ d2 hO)
  have h2b:S2 k hb:=N2.stay _ _ _ h2a fun c o hc e=>sb.extBut c o (by rcases hc with rfl | rfl<;>assumption) e
  refine Aa (Ib Ob rfl (Aa (Nf Ob fun hc Oc sc=>?_)))
  refine Aa (wpAny_letGo (Ag ?_))
  refine Aa (Aa (wpAny_onRaise ?_))
  show wpAny _ _ (Hd (.ref i2) >>=_) _ _ _
  have h2c:S2 k hc:=N2.stay _ _ _ h2b fun c o hc e=>sc.extBut c o (by rcases hc with rfl | rfl<;>assumption) e
  have zc:IsZip hc z TI TO .ellipsis:=sc.extBut _ _ (Ch d2) (sb.extBut _ _ (Ch d3) za)
  refine Aa (N2.done (s:={s with heap:=hc}) hh h2c hy fun hd e kd he=>?_)
  exact fin hd e (kd _ _ (Ch d4) zc) (fun c o c1 c2 c3 c4 x=>kd _ _ c4 (sc.extBut _ _ c2 (sb.extBut _ _ c3 (sa.extBut _ _ c1 x)))) he
end
noncomputable abbrev zh1(h:Heap)(t:Addr):Heap:=h.push {cls:= .type "tuple_iterator",data:= .fields #[.ref t,.int 0 0]}
noncomputable abbrev zh2(h:Heap)(t l:Addr):Heap:=(zh1 h t).push {cls:= .type "tuple_iterator",data:= .fields #[.ref l,.int 0 0]}
noncomputable abbrev zh3(h:Heap)(t l:Addr):Heap:=(zh2 h t l).push {cls:= .type "tuple",data:= .seq #[.ref h.objs.size,.ref (zh1 h t).objs.size]}
noncomputable abbrev zh4(h:Heap)(t l:Addr):Heap:=(zh3 h t l).push {cls:= .type "tuple",data:= .seq #[.none,.none]}
noncomputable abbrev zh5(h:Heap)(t l:Addr):Heap:=(zh4 h t l).push {cls:= .type "zip",data:= .fields #[.none,.bool false,.bool false,.ref (zh2 h t l).objs.size,.ref (zh3 h t l).objs.size]}
theorem Yb4(t l:Addr)(xs ys:Array Value):Meets (Builtin.«zip.__new__» ⟨[.type "zip",.ref t,.ref l],[]⟩) (fun _ R s=>s.heap.IsTuple t xs∧s.heap.IsTuple l ys∧R (.ok (.ret (.ref (zh4 s.heap t l).objs.size))) {s with heap:=zh5 s.heap t l}):=
 .of_wp fun prog w A R s h=>by
  obtain⟨hp,g,d,tk,os⟩:=s
  obtain⟨ht,hl,h⟩:=h
  have sub0:=sub_zip
  have hT:Heap.IsTuple (Shared.heap ⟨hp,g,d,tk,os⟩) t xs:=ht
  have hL:Heap.IsTuple (Shared.heap ⟨hp.push {cls:= .type "tuple_iterator",data:= .fields #[.ref t,.int 0 0]},g,d,tk,os⟩) l ys:=Heap.IsTuple.push hl _
  wp_walk using wpAny_pyIter_tuple hT,wpAny_pyIter_tuple hL
  exact⟨_,rfl,h⟩
section
variable{prog:Program}{w:World}{A:Around}{E:Value→Shared→Prop}{s:Shared}
theorem zt_call{t l:Addr}(ht:s.heap.IsTuple t xs)(hl:s.heap.IsTuple l ys)
  (h:∀h',IsZip h' (s.heap.objs.size+4) (s.heap.objs.size+2) (s.heap.objs.size+3) .none→IsPair h' (s.heap.objs.size+2) (.ref s.heap.objs.size) (.ref (s.heap.objs.size+1))→IsPair h' (s.heap.objs.size+3) .none .none→
   h'.IsTupleIter s.heap.objs.size t 0→h'.IsTupleIter (s.heap.objs.size+1) l 0→(∀c o,s.heap.get? c=some o→h'.get? c=some o)→Q (.ref (s.heap.objs.size+4)) {s with heap:=h'}):
  wpAny (model prog w) A (call (.type "zip") [.ref t,.ref l]) Q E s:=by
 refine callType_new F.called_zip (by decide) (F.typeCall_zip_2 _ _) (F.newCall_zip_2 _ _) (fun obj=>F.args_object_init_3 obj _ _) F.entry_zip_new (Yb4 t l xs ys) ⟨ht,hl,?_⟩
 have z1:(zh1 s.heap t).objs.size=s.heap.objs.size+1:=Ia ..
 have z2:(zh2 s.heap t l).objs.size=s.heap.objs.size+2:=by rw[Ia,z1]
 have z3:(zh3 s.heap t l).objs.size=s.heap.objs.size+3:=by rw[Ia,z2]
 have z4:(zh4 s.heap t l).objs.size=s.heap.objs.size+4:=by rw[Ia,z3]
 have up:∀{h:Heap} {o:Obj} {c:Addr} {u:Obj},h.get? c=some u→(h.push o).get? c=some u:=fun e=>Ae _ e
 have g5:(zh5 s.heap t l).get? (zh4 s.heap t l).objs.size=some _:=Aq _ rfl
 have g4:(zh5 s.heap t l).get? (zh3 s.heap t l).objs.size=some _:=up (Aq _ rfl)
 have g3:(zh5 s.heap t l).get? (zh2 s.heap t l).objs.size=some _:=up (up (Aq _ rfl))
 have g2:(zh5 s.heap t l).get? (zh1 s.heap t).objs.size=some _:=up (up (up (Aq _ rfl)))
 have g1:(zh5 s.heap t l).get? s.heap.objs.size=some _:=up (up (up (up (Aq _ rfl))))
 show _∧_
 rw[z2,z3,z4] at g5
 rw[z1,z2] at g3
 rw[z3] at g4
 rw[z1] at g2
 rw[z4]
 exact⟨⟨_,g5,rfl⟩,h _ g5 g3 g4 ⟨_,g1,rfl,rfl⟩ ⟨_,g2,rfl,rfl⟩ fun c o e=>up (up (up (up (up e))))⟩
variable{z TI TO i1 i2 l1 l2:Addr}{xs ys:Array Value}{S1 S2:Nat→Heap→Prop}
theorem zn_item{k:Nat}{x y a b:Value}(D:Ap z TI TO i1 i2 l1 l2)(N1:Nx prog w i1 l1 xs S1)(N2:Nx prog w i2 l2 ys S2)
  (hz:IsZip s.heap z TI TO .none) (hI:IsPair s.heap TI (.ref i1) (.ref i2)) (hO:IsPair s.heap TO a b) (h1:S1 k s.heap) (h2:S2 k s.heap) (hx:xs[k]?=some x) (hy:ys[k]?=some y)
  (q:∀h',IsZip h' z TI TO (rawInt s.heap.objs.size)→IsPair h' TO x y→S1 (k+1) h'→S2 (k+1) h'→IsPair h' s.heap.objs.size x y→h'.objs.size=s.heap.objs.size+1→(∀c o,c≠z→c≠TO→c≠i1→c≠i2→s.heap.get? c=some o→h'.get? c=some o)→Q (some (.ref s.heap.objs.size)) {s with heap:=h'}):
  wpAny (model prog w) A (pyNext (.ref z)) Q E s:=by
 have hT:s.TypeIs (.ref z) "zip":=⟨_,hz,rfl⟩
 unfold pyNext
 exact Aa (wpAny_attempt (Iq (name:=Str.ofString "__next__") hT F.slot_zip_next (Li F.slot_zip_next hT F.entry_zip_next (Y50 D N1 N2 hz hI hO h1 h2 hx hy fun h' a1 a2 a3 a4 a5 a6 a7=>Ag (q h' a1 a2 a3 a4 a5 a6 a7)) (F.args_zip_next_1 _))))
theorem zn_end{k:Nat}{a b:Value}(hh:A.handled=none)(D:Ap z TI TO i1 i2 l1 l2)(N1:Nx prog w i1 l1 xs S1)(N2:Nx prog w i2 l2 ys S2)
  (hz:IsZip s.heap z TI TO .none) (hI:IsPair s.heap TI (.ref i1) (.ref i2)) (hO:IsPair s.heap TO a b) (h1:S1 k s.heap) (h2:S2 k s.heap) (hend:xs[k]?=none∨ys[k]?=none)
  (q:∀h',(∀c o,c≠z→c≠TO→c≠i1→c≠i2→s.heap.get? c=some o→h'.get? c=some o)→Q none {s with heap:=h'}):wpAny (model prog w) A (pyNext (.ref z)) Q E s:=by
 have hT:s.TypeIs (.ref z) "zip":=⟨_,hz,rfl⟩
 unfold pyNext
 refine Aa (wpAny_attempt (Iq (name:=Str.ofString "__next__") hT F.slot_zip_next (Li F.slot_zip_next hT F.entry_zip_next (Yd6 (A:=A.in1) hh D N1 N2 hz hI hO h1 h2 hend fun h' e hk he=>?_) (F.args_zip_next_1 _))))
 obtain⟨o,ho,hc⟩:=he
 exact Aa (wpAny_isInstance (T:="StopIteration") (b:=true) ⟨o,ho,hc⟩ isSubtype_stop (Ag (q _ hk)))
end
end ZT
namespace L3
open PySem PySem.Spec PyProof.Rows L2
section
variable{X:Cx}
noncomputable def Itzt(K:Ab)(a b:Addr)(xs ys:List V):It:=
 ⟨fun i H=>∃x y,SqT K H a xs∧SqT K H b ys∧xs[i]?=some x∧ys[i]?=some y,
  fun i H x H'=>∃p u v,H p=none∧H'=upd H p (.tup [u,v])∧x= .ref p∧xs[i]?=some u∧ys[i]?=some v,
  fun i H=>SqT K H a xs∧SqT K H b ys∧(xs.length≤i∨ys.length≤i)⟩
theorem Z75{K:Ab}{z TI TO i1 i2 a b:Addr}(D:ZT.Ap z TI TO i1 i2 a b):
  Turn P w K (.Tuple elts x1 tp) (Itzt K a b xs ys) [z,TI,TO,i1,i2] z (fun i h=>IsZip h z TI TO .none∧IsPair h TI (.ref i1) (.ref i2)∧(∃u v,IsPair h TO u v)∧h.IsTupleIter i1 a i∧h.IsTupleIter i2 b i) where
 mem:=by simp
 obj:=by
  rintro i h ⟨hz,hTI,⟨u,v,hTO⟩,⟨o1,e1,_,d1⟩,⟨o2,e2,_,d2⟩⟩ c hc
  simp only[Aw,Ha,or_false] at hc
  rcases hc with rfl | rfl | rfl | rfl | rfl
  ·exact⟨_,hz,fun v q=>by cases q⟩
  ·exact⟨_,hTI,fun v q=>by cases q⟩
  ·exact⟨_,hTO,fun v q=>by cases q⟩
  ·exact⟨_,e1,fun v q=>by rw[d1] at q;cases q⟩
  ·exact⟨_,e2,fun v q=>by rw[d2] at q;cases q⟩
 keep:=by
  rintro i h h' ⟨hz,hTI,⟨u,v,hTO⟩,⟨o,e,r⟩,⟨o2,e2,r2⟩⟩ k
  exact⟨k z (by simp) _ hz,k TI (by simp) _ hTI,⟨u,v,k TO (by simp) _ hTO⟩,⟨o,k i1 (by simp) _ e,r⟩,⟨o2,k i2 (by simp) _ e2,r2⟩⟩
 item:=by
  rintro X rfl rfl rfl hc i pins s σ H E I hf ⟨hz,hTI,⟨u0,v0,hTO⟩,h1,h2⟩ ⟨x,y,hq,hr,hx,hy⟩
  obtain⟨its,rv,p,_⟩:=I.tuple hq
  obtain⟨jts,rw2,p2,_⟩:=I.tuple hr
  obtain⟨u,hu,ru⟩:=rv.get hx
  obtain⟨v,hv,rv2⟩:=rw2.get hy
  have lt:∀c∈[z,TI,TO,i1,i2],@LT.lt Nat _ c s.heap.objs.size:=by
   intro c hc
   simp only[Aw,Ha,or_false] at hc
   obtain⟨o1,e1,_⟩:=id h1
   obtain⟨o2,e2,_⟩:=id h2
   rcases hc with rfl | rfl | rfl | rfl | rfl
   ·exact Aj hz
   ·exact Aj hTI
   ·exact Aj hTO
   ·exact Aj e1
   ·exact Aj e2
  refine ZT.zn_item D (ZT.Nx.tuple D.z3.2.2.1 its.toArray) (ZT.Nx.tuple D.z4.2.2 jts.toArray) hz hTI hTO ⟨h1,p⟩ ⟨h2,p2⟩ (x:=u) (y:=v) (by simpa using hu) (by simpa using hv) fun hh ho hTO2 g1 g2 hT hsz hk=>?_
  refine⟨_,rfl,wpAny_letOwnedTupleGo_zip ho fun h3 hz3 hs3=>?_⟩
  replace hs3:Il z hh h3:=hs3
  obtain⟨⟨a1,a2,a3,a4,a5,a6⟩,⟨b1,b2,b3,b4,b5⟩,⟨c1,c2,c3,c4⟩,e1,e2,e3⟩:=D
  have nz:s.heap.objs.size≠z:=Nat.ne_of_gt (lt z (by simp))
  have hT3:h3.get? s.heap.objs.size=some {cls:= .type "tuple",data:= .seq #[u,v]}:=(hs3.2 _ nz).trans hT
  have hn:H s.heap.objs.size=none:=I.hok.fresh (Nat.le_refl _)
  have I1:Inv X pins σ (upd H s.heap.objs.size (.tup [x,y])) {s with heap:=s.heap.push {cls:= .type "tuple",data:= .seq #[u,v]},toks:=s.toks}:=
   I.laid (fun b ob q=>Ae _ q) (Nat.le_refl _) ⟨show 2≤sizeLine by rw[Kn];omega,[u,v],.cons ru (.cons rv2 .nil),⟨_,Aq _ rfl,rfl,_,rfl⟩⟩
  have up:∀c∈[z,TI,TO,i1,i2],FpOk X pins (upd H s.heap.objs.size (.tup [x,y])) c:=by
   intro c hc
   refine⟨?_,(hf c hc).2⟩
   rw[Za (Nat.ne_of_lt (lt c hc))]
   exact(hf c hc).1
  have I2:=Nh (h':=h3) (t':=s.toks) I1 (fun c o hc e'=>by
   simp only[Aw,Ha,or_false,not_or] at hc
   rcases Sv e' with q | q
   ·exact(hs3.2 c hc.1).trans (hk c o hc.1 hc.2.2.1 hc.2.2.2.1 hc.2.2.2.2 q)
   ·subst q
    have z2:(s.heap.push {cls:= .type "tuple",data:= .seq #[u,v]}).get? s.heap.objs.size=some o:=e'
    rw[Aq _ rfl] at z2
    cases z2
    exact hT3) up
  obtain⟨q1,q2,q3⟩:=g1.1
  obtain⟨q4,q5,q6⟩:=g2.1
  refine⟨.ref s.heap.objs.size,_,I2,rfl,⟨_,x,y,hn,rfl,rfl,hx,hy⟩,
   ⟨hz3,(hs3.2 TI a1).trans (hk TI _ a1 b1 c1 e1 hTI),⟨_,_,(hs3.2 TO a2).trans hTO2⟩,⟨q1,(hs3.2 i1 a3).trans q2,q3⟩,⟨q4,(hs3.2 i2 a4).trans q5,q6⟩⟩,fun c hc=>(up c hc).1⟩
 done:=by
  rintro X rfl rfl rfl hc i pins s σ H E I hf ⟨hz,hTI,⟨u0,v0,hTO⟩,h1,h2⟩ ⟨hq,hr,hl⟩
  obtain⟨its,rv,p,_⟩:=I.tuple hq
  obtain⟨jts,rw2,p2,_⟩:=I.tuple hr
  have l1:=rv.length
  have l2:=rw2.length
  refine ZT.zn_end (I.ok.hd hc) D (ZT.Nx.tuple D.z3.2.2.1 its.toArray) (ZT.Nx.tuple D.z4.2.2 jts.toArray) hz hTI hTO ⟨h1,p⟩ ⟨h2,p2⟩ ?_ fun h' eb=>⟨rfl,Nh (t':=s.toks) I (ch:=[z,TI,TO,i1,i2]) (fun c o hc e=>?_) hf⟩
  ·rcases hl with hl | hl
   ·exact .inl (by simp;omega)
   ·exact .inr (by simp;omega)
  ·simp only[Aw,Ha,or_false,not_or] at hc
   exact eb c o hc.1 hc.2.2.1 hc.2.2.2.1 hc.2.2.2.2 e
 self:=by
  rintro A i s Q E ⟨hz,_⟩ h
  exact wpAny_pyIter_zip hz h
def Yg8(K:Ab)(ta:TA):TI:=fun σ H R=>ta σ H fun vs H1=>(∃a b,vs=[V.ref a,V.ref b]∧(∃xs,SqL K H1 a xs)∧(∃ys,SqL K H1 b ys)∧R (Itz K a b) H1)∨(∃a b xs ys,vs=[V.ref a,V.ref b]∧SqT K H1 a xs∧SqT K H1 b ys∧R (Itzt K a b xs ys) H1)
theorem Zy7{p pos:Pos}(hg:Gl X "zip")(hm:X.mg "zip"=none)(ha:PA X (l::ls) ta)(he:starEach (l::ls) X.env=(false,eval l X.env)::starEach ls X.env)(hpl:(backTo pos (starEach ls X.env)).any (·.1)=false):
  PI X (.Tuple elts x1 tp) (.Call (.Name "zip" p) (l::ls) [] pos) (Yg8 X.K ta):=by
 intro pins s σ H R I h
 refine Hs (Rj I hg hm (u:= .type "zip") (by kernel_rfl) ?_)
 refine Hr (thn (ha pos pins s σ H _ I h) fun us s1 zz69=>?_) he hpl
 obtain⟨vs,H1,I1,rv,q⟩:=zz69
 have hb:∀c∈[s1.heap.objs.size+4,s1.heap.objs.size+2,s1.heap.objs.size+3,s1.heap.objs.size,s1.heap.objs.size+1],@LE.le Nat _ s1.heap.objs.size c:=by
  intro c hc
  simp only[Aw,Ha,or_false] at hc
  rcases hc with rfl | rfl | rfl | rfl | rfl
  ·exact Nat.le_add_right _ _
  ·exact Nat.le_add_right _ _
  ·exact Nat.le_add_right _ _
  ·exact Nat.le_refl _
  ·exact Nat.le_add_right _ _
 rcases q with⟨a,b,ev,⟨xs,hp⟩,⟨ys,hq⟩,q⟩ | ⟨a,b,xs,ys,ev,hp,hq,q⟩
 ·subst ev
  obtain⟨u1,u2,rfl,e1,e2⟩:=Ni rv
  cases e1
  cases e2
  obtain⟨us,r1,pl1,z1⟩:=I1.list hp
  obtain⟨ws,r2,pl2,z2⟩:=I1.list hq
  have L1:=pl1.isList
  have L2:=pl2.isList
  have lt1:@LT.lt Nat _ a s1.heap.objs.size:=by obtain⟨o,e,_⟩:=L1;exact Aj e
  have lt2:@LT.lt Nat _ b s1.heap.objs.size:=by obtain⟨o,e,_⟩:=L2;exact Aj e
  refine call_zip_2 L1 L2 fun h' a1 a2 a3 a4 a5 a6 kp=>wpAny_pyIter_zip a1 ?_
  have D:ZipApart (s1.heap.objs.size+4) (s1.heap.objs.size+2) (s1.heap.objs.size+3) s1.heap.objs.size (s1.heap.objs.size+1) a b:=by
   constructor<;>(show(_:Nat)≠_)<;>omega
  exact⟨s1.heap.objs.size+4,[s1.heap.objs.size+4,s1.heap.objs.size+2,s1.heap.objs.size+3,s1.heap.objs.size,s1.heap.objs.size+1],_,_,H1,rfl,I1.kept (t':=s1.toks) kp,Zk5 _ _ _ _ _ a b D,⟨a1,a2,⟨_,_,a3⟩,a4,a5⟩,fun c hc=>I1.fpOk (hb c hc) (I1.hok.fresh (hb c hc)),q⟩
 ·subst ev
  obtain⟨u1,u2,rfl,e1,e2⟩:=Ni rv
  cases e1
  cases e2
  obtain⟨us,r1,pl1,z1⟩:=I1.tuple hp
  obtain⟨ws,r2,pl2,z2⟩:=I1.tuple hq
  have lt1:@LT.lt Nat _ a s1.heap.objs.size:=by obtain⟨o,e,_⟩:=pl1;exact Aj e
  have lt2:@LT.lt Nat _ b s1.heap.objs.size:=by obtain⟨o,e,_⟩:=pl2;exact Aj e
  refine ZT.zt_call pl1 pl2 fun h' a1 a2 a3 a4 a5 kp=>wpAny_pyIter_zip a1 ?_
  have D:ZT.Ap (s1.heap.objs.size+4) (s1.heap.objs.size+2) (s1.heap.objs.size+3) s1.heap.objs.size (s1.heap.objs.size+1) a b:=by
   refine⟨⟨?_,?_,?_,?_,?_,?_⟩,⟨?_,?_,?_,?_,?_⟩,⟨?_,?_,?_,?_⟩,?_,?_,?_⟩<;>(show(_:Nat)≠_)<;>omega
  exact⟨s1.heap.objs.size+4,[s1.heap.objs.size+4,s1.heap.objs.size+2,s1.heap.objs.size+3,s1.heap.objs.size,s1.heap.objs.size+1],_,_,H1,rfl,I1.kept (t':=s1.toks) kp,Z75 D,⟨a1,a2,⟨_,_,a3⟩,a4,a5⟩,fun c hc=>I1.fpOk (hb c hc) (I1.hok.fresh (hb c hc)),q⟩
end
end L3
namespace U
open PySem PySem.Spec PyProof.Rows L2 L3
inductive D where
 | non | bl (b:Bool) | int (i:Int) | str (x:Str) | tup (ds:List D) | ref (n:Nat) | ty (n:String) | gtup (ds:List D) | cls (a:Addr) | exn (e C dx:Addr) (row:D)
inductive Cell where
 | lst (ds:List D) | frz (ds:List D) | dct (kvs:List (Key×D)) | fdc (kvs:List (Key×D)) | dcp (kvs:List (List Key×D))
noncomputable abbrev Z3:=List Cell
noncomputable abbrev DEnv:=List (Option D)
abbrev DK:=D→Z3→Prop
abbrev DX:=Addr→D→Z3→Prop
abbrev DE:=DEnv→Z3→DK→Prop
abbrev DA:=DEnv→Z3→(List D→Z3→Prop)→Prop
abbrev DT:=DEnv→Z3→(Bool→Z3→Prop)→Prop
abbrev DSp:=List D→Z3→DK→DX→Prop
structure DEnds where
 nx:DEnv→Z3→Prop
 rt:DK
 bk:DEnv→Z3→Prop:=fun _ _=>False
 ct:DEnv→Z3→Prop:=fun _ _=>False
abbrev DS:=DEnds→DEnv→Z3→Prop
structure Vw where
 K:Ab
 H:Hp
 μ:Nat→Addr
 n:Nat
mutual
def RD(w:Vw):D→V→Prop
 | .non,v=>v= .non
 | .bl b,v=>v= .bl b
 | .int i,v=>v= .int i
 | .str x,v=>v= .str x
 | .tup ds,v=>∃a vs,v= .ref a∧w.H a=some (.tup vs)∧RDs w ds vs
 | .ref i,v=>i<w.n∧v= .ref (w.μ i)
 | .ty n,v=>v= .ty n
 | .gtup ds,v=>∃a vs,v= .ref a∧SqT w.K w.H a vs∧RDs w ds vs
 | .cls a,v=>v= .ref a
 | .exn e C dx row,v=>v= .ref e∧w.H e=some (XO e (.ref C) (some dx))∧∃r,w.H dx=some (.xd [("row",r)])∧RD w row r
def RDs(w:Vw):List D→List V→Prop
 | [],vs=>vs=[]
 | d::ds,vs=>∃v r,vs=v::r∧RD w d v∧RDs w ds r
end
def RKV{κ:Type}(w:Vw):List (κ×D)→List (κ×V)→Prop
 | [],vs=>vs=[]
 |(k,d)::ds,vs=>∃v r,vs=(k,v)::r∧RD w d v∧RKV w ds r
def SqF(K:Ab)(H:Hp)(a:Addr)(vs:List V):Prop:=(∃o,H a=some (.frz o (.lst vs)))∨SqL K (fun _=>none) a vs
noncomputable def Cell.mut:Cell→Bool
 | .frz _=>false
 | _=>true
def N9(w:Vw):Cell→Addr→Prop
 | .lst ds,a=>∃vs,w.H a=some (.lst vs)∧RDs w ds vs
 | .frz ds,a=>∃vs,SqF w.K w.H a vs∧RDs w ds vs
 | .dct kvs,a=>∃vs,w.H a=some (.dK vs)∧RKV w kvs vs
 | .fdc kvs,a=>∃o vs,w.H a=some (.frz o (.dK vs))∧RKV w kvs vs
 | .dcp kvs,a=>∃vs,w.H a=some (.dT vs)∧RKV w kvs vs
structure RS(w:Vw)(M:Z3):Prop where
 len:w.n=M.length
 inj:∀(i j:Nat) (ci cj:Cell),M[i]?=some ci→M[j]?=some cj→ci.mut=true→cj.mut=true→w.μ i=w.μ j→i=j
 cell:∀i c,M[i]?=some c→N9 w c (w.μ i)
noncomputable def Imm:HO→Bool
 | .tup _ | .xd _ | .ext _ | .frz _ _=>true
 | _=>false
structure Ext(w w':Vw):Prop where
 K:w'.K=w.K
 n:w.n≤w'.n
 μ:∀i,i<w.n→w'.μ i=w.μ i
 imm:∀a o,w.H a=some o→Imm o=true→w'.H a=some o
theorem Ext.refl(w:Vw):Ext w w:=⟨rfl,Nat.le_refl _,fun _ _=>rfl,fun _ _ h _=>h⟩
theorem Ext.trans{a b c:Vw}(x:Ext a b)(y:Ext b c):Ext a c:=
 ⟨y.K.trans x.K,Nat.le_trans x.n y.n,fun i h=>(y.μ i (Nat.lt_of_lt_of_le h x.n)).trans (x.μ i h),fun p o h q=>y.imm p o (x.imm p o h q) q⟩
theorem Ext.sqT(x:Ext w w'){a:Addr}(h:SqT w.K w.H a vs):SqT w'.K w'.H a vs:=by
 rw[x.K]
 rcases h with(h | ⟨o,h⟩) | h
 ·exact .inl (.inl (x.imm _ _ h rfl))
 ·exact .inl (.inr ⟨o,x.imm _ _ h rfl⟩)
 ·exact .inr h
mutual
theorem RD.ext(x:Ext w w'):∀{d:D} {v:V},RD w d v→RD w' d v
 | .non,v,h=>by unfold RD at *;exact h
 | .bl b,v,h=>by unfold RD at *;exact h
 | .int i,v,h=>by unfold RD at *;exact h
 | .str _,v,h=>by unfold RD at *;exact h
 | .tup ds,v,h=>by
  unfold RD at *
  obtain⟨a,vs,e,q,r⟩:=h
  exact⟨a,vs,e,x.imm _ _ q rfl,RDs.ext x r⟩
 | .ref i,v,h=>by
  unfold RD at *
  exact⟨Nat.lt_of_lt_of_le h.1 x.n,by rw[x.μ i h.1];exact h.2⟩
 | .ty n,v,h=>by unfold RD at *;exact h
 | .gtup ds,v,h=>by
  unfold RD at *
  obtain⟨a,vs,e,q,r⟩:=h
  exact⟨a,vs,e,x.sqT q,RDs.ext x r⟩
 | .cls a,v,h=>by unfold RD at *;exact h
 | .exn e C dx row,v,h=>by
  unfold RD at *
  obtain⟨e1,q,r,q2,q3⟩:=h
  exact⟨e1,x.imm _ _ q rfl,r,x.imm _ _ q2 rfl,RD.ext x q3⟩
theorem RDs.ext(x:Ext w w'):∀{ds:List D} {vs:List V},RDs w ds vs→RDs w' ds vs
 | [],vs,h=>by unfold RDs at *;exact h
 | d::ds,vs,h=>by
  unfold RDs at *
  obtain⟨v,r,e,h1,h2⟩:=h
  exact⟨v,r,e,RD.ext x h1,RDs.ext x h2⟩
end
theorem RKV.ext{κ:Type}(x:Ext w w'):∀{ds:List (κ×D)} {vs:List (κ×V)},RKV w ds vs→RKV w' ds vs
 | [],vs,h=>by unfold RKV at *;exact h
 |(k,d)::ds,vs,h=>by
  unfold RKV at *
  obtain⟨v,r,e,h1,h2⟩:=h
  exact⟨v,r,e,RD.ext x h1,RKV.ext x h2⟩
structure Ext0(w w':Vw):Prop where
 K:w'.K=w.K
 n:w.n≤w'.n
 μ:∀i,i<w.n→w'.μ i=w.μ i
 imm:∀a o,w.H a=some o→Imm o=true→(∀ob kvs,o≠ .frz ob (.dK kvs))→w'.H a=some o
mutual
theorem RD.ext0(x:Ext0 w w'):∀{d:D} {v:V},RD w d v→RD w' d v
 | .non,v,h=>by unfold RD at *;exact h
 | .bl b,v,h=>by unfold RD at *;exact h
 | .int i,v,h=>by unfold RD at *;exact h
 | .str _,v,h=>by unfold RD at *;exact h
 | .tup ds,v,h=>by
  unfold RD at *
  obtain⟨a,vs,e,q,r⟩:=h
  exact⟨a,vs,e,x.imm _ _ q rfl (fun _ _ z=>by cases z),RDs.ext0 x r⟩
 | .ref i,v,h=>by
  unfold RD at *
  exact⟨Nat.lt_of_lt_of_le h.1 x.n,by rw[x.μ i h.1];exact h.2⟩
 | .ty n,v,h=>by unfold RD at *;exact h
 | .gtup ds,v,h=>by
  unfold RD at *
  obtain⟨a,vs,e,q,r⟩:=h
  refine⟨a,vs,e,?_,RDs.ext0 x r⟩
  rw[x.K]
  rcases q with(h | ⟨o,h⟩) | h
  ·exact .inl (.inl (x.imm _ _ h rfl (fun _ _ z=>by cases z)))
  ·exact .inl (.inr ⟨o,x.imm _ _ h rfl (fun _ _ z=>by cases z)⟩)
  ·exact .inr h
 | .cls a,v,h=>by unfold RD at *;exact h
 | .exn e C dx row,v,h=>by
  unfold RD at *
  obtain⟨e1,q,r,q2,q3⟩:=h
  exact⟨e1,x.imm _ _ q rfl (fun _ _ z=>by cases z),r,x.imm _ _ q2 rfl (fun _ _ z=>by cases z),RD.ext0 x q3⟩
theorem RDs.ext0(x:Ext0 w w'):∀{ds:List D} {vs:List V},RDs w ds vs→RDs w' ds vs
 | [],vs,h=>by unfold RDs at *;exact h
 | d::ds,vs,h=>by
  unfold RDs at *
  obtain⟨v,r,e,h1,h2⟩:=h
  exact⟨v,r,e,RD.ext0 x h1,RDs.ext0 x h2⟩
end
theorem RKV.ext0{κ:Type}(x:Ext0 w w'):∀{ds:List (κ×D)} {vs:List (κ×V)},RKV w ds vs→RKV w' ds vs
 | [],vs,h=>by unfold RKV at *;exact h
 |(k,d)::ds,vs,h=>by
  unfold RKV at *
  obtain⟨v,r,e,h1,h2⟩:=h
  exact⟨v,r,e,RD.ext0 x h1,RKV.ext0 x h2⟩
theorem RDs.nil(w:Vw):RDs w [] []:=by unfold RDs;rfl
theorem RDs.cons{w:Vw}{d:D}{v:V}{ds:List D}{vs:List V}(h:RD w d v)(r:RDs w ds vs):RDs w (d::ds) (v::vs):=by unfold RDs;exact⟨v,vs,rfl,h,r⟩
theorem RDs.length:∀{ds:List D} {vs:List V},RDs w ds vs→vs.length=ds.length
 | [],vs,h=>by unfold RDs at h;subst h;rfl
 | d::ds,vs,h=>by
  unfold RDs at h
  obtain⟨v,r,rfl,_,h2⟩:=h
  simp[h2.length]
theorem RDs.get:∀{ds:List D} {vs:List V} {i:Nat} {d:D},RDs w ds vs→ds[i]?=some d→∃v,vs[i]?=some v∧RD w d v
 | [],vs,i,d,h,e=>by simp at e
 | d::ds,vs,i,d',h,e=>by
  unfold RDs at h
  obtain⟨v,r,rfl,h1,h2⟩:=h
  cases i with
  | zero=>simp at e;subst e;exact⟨v,rfl,h1⟩
  | succ i=>simpa using RDs.get h2 (by simpa using e)
theorem RDs.append:∀{ds es:List D} {vs us:List V},RDs w ds vs→RDs w es us→RDs w (ds++es) (vs++us)
 | [],es,vs,us,h,g=>by unfold RDs at h;subst h;exact g
 | d::ds,es,vs,us,h,g=>by
  unfold RDs at h
  obtain⟨v,r,rfl,h1,h2⟩:=h
  exact RDs.cons h1 (RDs.append h2 g)
theorem RDs.take:∀{ds:List D} {vs:List V} (n:Nat),RDs w ds vs→RDs w (ds.take n) (vs.take n)
 | _,_,0,_=>by simp[RDs.nil]
 | [],vs,n+1,h=>by unfold RDs at h;subst h;simp[RDs.nil]
 | d::ds,vs,n+1,h=>by
  unfold RDs at h
  obtain⟨v,r,rfl,h1,h2⟩:=h
  exact RDs.cons h1 (RDs.take n h2)
theorem RDs.drop:∀{ds:List D} {vs:List V} (n:Nat),RDs w ds vs→RDs w (ds.drop n) (vs.drop n)
 | _,_,0,h=>by simpa using h
 | [],vs,n+1,h=>by unfold RDs at h;subst h;simp[RDs.nil]
 | d::ds,vs,n+1,h=>by
  unfold RDs at h
  obtain⟨v,r,rfl,h1,h2⟩:=h
  simpa using RDs.drop n h2
theorem RDs.set{d:D}{v:V}(q:RD w d v):∀{ds:List D} {vs:List V} (n:Nat),RDs w ds vs→RDs w (ds.set n d) (vs.set n v)
 | [],vs,n,h=>by unfold RDs at h;subst h;simp[RDs.nil]
 | d::ds,vs,0,h=>by
  unfold RDs at h
  obtain⟨v,r,rfl,h1,h2⟩:=h
  exact RDs.cons q h2
 | d::ds,vs,n+1,h=>by
  unfold RDs at h
  obtain⟨v,r,rfl,h1,h2⟩:=h
  exact RDs.cons h1 (RDs.set q n h2)
theorem RDs.reverse:∀{ds:List D} {vs:List V},RDs w ds vs→RDs w ds.reverse vs.reverse
 | [],vs,h=>by unfold RDs at h;subst h;simp[RDs.nil]
 | d::ds,vs,h=>by
  unfold RDs at h
  obtain⟨v,r,rfl,h1,h2⟩:=h
  simp only[List.reverse_cons]
  exact(RDs.reverse h2).append (RDs.cons h1 (RDs.nil w))
noncomputable def Vw.push(w:Vw)(a:Addr)(o:HO):Vw:=⟨w.K,upd w.H a o,fun i=>if i=w.n then a else w.μ i,w.n+1⟩
noncomputable def Vw.alloc(w:Vw)(a:Addr)(o:HO):Vw:={w with H:=upd w.H a o}
theorem Vl{a:Addr}(h:w.H a=none):Ext w (w.alloc a o):=
 ⟨rfl,Nat.le_refl _,fun _ _=>rfl,fun b u q _=>by
  show upd w.H a o b=some u
  rw[Za (by rintro rfl;rw[h] at q;cases q)];exact q⟩
theorem V8{a:Addr}(h:w.H a=none):Ext w (w.push a o):=
 ⟨rfl,Nat.le_succ _,fun i hi=>by show(if i=w.n then a else w.μ i)=_;rw[if_neg (by omega)],fun b u q _=>by
  show upd w.H a o b=some u
  rw[Za (by rintro rfl;rw[h] at q;cases q)];exact q⟩
theorem SqF.stay{a:Addr}(x:Ext w w')(h:SqF w.K w.H a vs):SqF w'.K w'.H a vs:=by
 rcases h with⟨o,h⟩ | h
 ·exact .inl ⟨o,x.imm _ _ h rfl⟩
 ·rw[x.K];exact .inr h
theorem SqF.sq{K:Ab}{a:Addr}(h:SqF K H a vs):SqL K H a vs:=by
 rcases h with⟨o,h⟩ | (h | ⟨o,h⟩) | h
 ·exact .inl (.inr ⟨o,h⟩)
 ·cases h
 ·cases h
 ·exact .inr h
theorem N9.some{a:Addr}(hm:c.mut=true)(h:N9 w c a):∃o,w.H a=some o:=by
 cases c with
 | lst ds=>obtain⟨vs,q,_⟩:=h;exact⟨_,q⟩
 | frz ds=>cases hm
 | dct ds=>obtain⟨vs,q,_⟩:=h;exact⟨_,q⟩
 | fdc ds=>obtain⟨o,vs,q,_⟩:=h;exact⟨_,q⟩
 | dcp ds=>obtain⟨vs,q,_⟩:=h;exact⟨_,q⟩
theorem N9.stay{a:Addr}(x:Ext w w')(h:N9 w c a)(k:c.mut=true→w'.H a=w.H a):N9 w' c a:=by
 cases c with
 | lst ds=>obtain⟨vs,q,r⟩:=h;exact⟨vs,(k rfl).trans q,r.ext x⟩
 | frz ds=>obtain⟨vs,q,r⟩:=h;exact⟨vs,q.stay x,r.ext x⟩
 | dct ds=>obtain⟨vs,q,r⟩:=h;exact⟨vs,(k rfl).trans q,r.ext x⟩
 | fdc ds=>obtain⟨o,vs,q,r⟩:=h;exact⟨o,vs,(k rfl).trans q,r.ext x⟩
 | dcp ds=>obtain⟨vs,q,r⟩:=h;exact⟨vs,(k rfl).trans q,r.ext x⟩
theorem RS.alloc{a:Addr}(R:RS w M)(h:w.H a=none):RS (w.alloc a o) M:=
 ⟨R.len,R.inj,fun i c e=>by
  have q:=R.cell i c e
  refine q.stay (Vl h) fun hm=>?_
  obtain⟨u,hu⟩:=q.some hm
  exact Za (fun z=>by have z:w.μ i=a:=z;rw[z,h] at hu;cases hu)⟩
theorem RS.push{a:Addr}(R:RS w M)(h:w.H a=none)(new:N9 (w.push a o) c a):RS (w.push a o) (M++[c]):=by
 have old:∀(i:Nat) (ci:Cell),(M++[c])[i]?=some ci→(i=w.n∧ci=c)∨(i<w.n∧M[i]?=some ci):=fun i ci e=>by
  by_cases hi:i<M.length
  ·rw[Di hi] at e
   exact .inr ⟨by rw[R.len];exact hi,e⟩
  ·rw[Dk (by omega)] at e
   have hz:i - M.length=0:=by
    have:=(Af.mp e).1
    simp at this
    omega
   rw[hz] at e
   simp at e
   exact .inl ⟨by rw[R.len];omega,e.symm⟩
 have no:∀(i:Nat) (ci:Cell),M[i]?=some ci→ci.mut=true→w.μ i≠a:=fun i ci e hm z=>by
  obtain⟨u,hu⟩:=(R.cell i ci e).some hm
  rw[z,h] at hu;cases hu
 refine⟨by show w.n+1=_;rw[R.len];simp,fun i j ci cj ei ej mi mj e=>?_,fun i c' e=>?_⟩
 ·change (if i=w.n then a else w.μ i)=(if j=w.n then a else w.μ j) at e
  rcases old i ci ei with⟨h1,_⟩ | ⟨h1,h1'⟩
  ·rcases old j cj ej with⟨h2,_⟩ | ⟨h2,h2'⟩
   ·omega
   ·rw[if_pos h1,if_neg (by omega)] at e
    exact absurd e.symm (no j cj h2' mj)
  ·rcases old j cj ej with⟨h2,_⟩ | ⟨h2,h2'⟩
   ·rw[if_neg (by omega),if_pos h2] at e
    exact absurd e (no i ci h1' mi)
   ·rw[if_neg (by omega),if_neg (by omega)] at e
    exact R.inj i j ci cj h1' h2' mi mj e
 ·show N9 _ c' (if i=w.n then a else w.μ i)
  rcases old i c' e with⟨h1,rfl⟩ | ⟨h1,h1'⟩
  ·rw[if_pos h1];exact new
  ·rw[if_neg (by omega)]
   have q:=R.cell i c' h1'
   exact q.stay (V8 h) fun hm=>Za (no i c' h1' hm)
theorem Xy{a:Addr}(h:w.H a=some u)(hu:Imm u=false):Ext w (w.alloc a o):=
 ⟨rfl,Nat.le_refl _,fun _ _=>rfl,fun b v q z=>by
  show upd w.H a o b=some v
  rw[Za (by rintro rfl;rw[h] at q;cases q;rw[hu] at z;cases z)];exact q⟩
theorem RS.write{i:Nat}(R:RS w M)(h0:M[i]?=some c0)(hm:c0.mut=true)(hc:c.mut=true)(h:w.H (w.μ i)=some u)(hu:Imm u=false)(new:N9 (w.alloc (w.μ i) o) c (w.μ i)):RS (w.alloc (w.μ i) o) (M.set i c):=by
 have hi:i<M.length:=(Af.mp h0).1
 have old:∀(j:Nat) (cj:Cell),(M.set i c)[j]?=some cj→cj.mut=true→∃cj',M[j]?=some cj'∧cj'.mut=true:=fun j cj e mj=>by
  by_cases h1:j=i
  ·subst h1;exact⟨c0,h0,hm⟩
  ·rw[Dh (Ch h1)] at e
   exact⟨cj,e,mj⟩
 refine⟨by show w.n=_;rw[R.len];simp,fun a b ca cb ea eb ma mb e=>?_,fun j c' e=>?_⟩
 ·obtain⟨ca',ea',ma'⟩:=old a ca ea ma
  obtain⟨cb',eb',mb'⟩:=old b cb eb mb
  exact R.inj a b ca' cb' ea' eb' ma' mb' e
 ·by_cases h1:j=i
  ·subst h1
   rw[Dq hi] at e
   cases e
   exact new
  ·rw[Dh (Ch h1)] at e
   have q:=R.cell j c' e
   exact q.stay (Xy h hu) fun mj=>Za (fun z=>h1 (R.inj j i c' c0 e h0 mj hm z))
theorem Jy{a:Addr}(h:w.H a=some (.frz o (.dK vs))):Ext0 w (w.alloc a u):=
 ⟨rfl,Nat.le_refl _,fun _ _=>rfl,fun b v q _ n=>by
  show upd w.H a u b=some v
  rw[Za (by rintro rfl;rw[h] at q;cases q;exact n _ _ rfl)];exact q⟩
theorem RS.thaw{i:Nat}(R:RS w M)(h0:M[i]?=some (.fdc kvs))(h:w.H (w.μ i)=some (.frz o (.dK vs)))(r:RKV w kvs vs):RS (w.alloc (w.μ i) (.dK vs)) (M.set i (.dct kvs)):=by
 have hi:i<M.length:=(Af.mp h0).1
 have x:=Jy (u:= .dK vs) h
 have old:∀(j:Nat) (cj:Cell),(M.set i (.dct kvs))[j]?=some cj→cj.mut=true→∃cj',M[j]?=some cj'∧cj'.mut=true:=fun j cj e mj=>by
  by_cases h1:j=i
  ·subst h1;exact⟨_,h0,rfl⟩
  ·rw[Dh (Ch h1)] at e
   exact⟨cj,e,mj⟩
 refine⟨by show w.n=_;rw[R.len];simp,fun a b ca cb ea eb ma mb e=>?_,fun j c' e=>?_⟩
 ·obtain⟨ca',ea',ma'⟩:=old a ca ea ma
  obtain⟨cb',eb',mb'⟩:=old b cb eb mb
  exact R.inj a b ca' cb' ea' eb' ma' mb' e
 ·by_cases h1:j=i
  ·subst h1
   rw[Dq hi] at e
   cases e
   exact⟨vs,Zs,r.ext0 x⟩
  ·rw[Dh (Ch h1)] at e
   have q:=R.cell j c' e
   have ne:c'.mut=true→w.μ j≠w.μ i:=fun mj z=>h1 (R.inj j i c' _ e h0 mj rfl z)
   cases c' with
   | lst ds=>obtain⟨us,q,r⟩:=q;exact⟨us,(Za (ne rfl)).trans q,r.ext0 x⟩
   | dct ds=>obtain⟨us,q,r⟩:=q;exact⟨us,(Za (ne rfl)).trans q,r.ext0 x⟩
   | fdc ds=>obtain⟨o,us,q,r⟩:=q;exact⟨o,us,(Za (ne rfl)).trans q,r.ext0 x⟩
   | dcp ds=>obtain⟨us,q,r⟩:=q;exact⟨us,(Za (ne rfl)).trans q,r.ext0 x⟩
   | frz ds=>
    obtain⟨us,q,r⟩:=q
    refine⟨us,?_,r.ext0 x⟩
    rcases q with⟨o,q⟩ | q
    ·exact .inl ⟨o,x.imm _ _ q rfl (fun _ _ z=>by cases z)⟩
    ·exact .inr q
theorem Zi2{a:Addr}(h:w1.H a=some u)(hu:Imm u=false)(x:Ext (w1.alloc a f) w2):Ext w1 (w2.alloc a o):=
 ⟨x.K,x.n,x.μ,fun b v q z=>by
  have hb:b≠a:=by rintro rfl;rw[h] at q;cases q;rw[hu] at z;cases z
  show upd w2.H a o b=some v
  rw[Za hb]
  exact x.imm b v ((Za hb).trans q) z⟩
inductive Op where
 | add | sub | mul | fdiv | mod | pow | band | bxor
 deriving DecidableEq
inductive Cm where
 | lt | gt | eq | ne | isin | notin
 deriving DecidableEq
inductive Bf where
 | len | isinst | min2 | dict1 | int1
 deriving DecidableEq
inductive Mt where
 | append | get2 | pop0 | setd | extend
 deriving DecidableEq
inductive Ty where
 | int | str | bool | list | tuple | dict | valueError
 deriving DecidableEq
noncomputable def Xp:Ty→String
 | .int=>"int" | .str=>"str" | .bool=>"bool" | .list=>"list" | .tuple=>"tuple" | .dict=>"dict" | .valueError=>"ValueError"
set_option genInjectivity false in
mutual
inductive E where
 | var (i:Nat) | int (i:Int) | bl (b:Bool) | non | str (x:Str) | ty (x:Ty) | glb (k:Nat)
 | bin (op:Op) (a b:E) | neg (a:E) | not (a:E) | cmp (op:Cm) (a b:E) | bop (isAnd:Bool) (es:Es) | ife (c a b:E)
 | lst (es:Es) | tup (es:Es) | dict0 | dictT | dct (a b:E) | ix (a b:E) | sl (a:E) (lo hi:Eo)
 | call (f:Nat) (es:Es) | bf (b:Bf) (es:Es) | mt (m:Mt) (o:E) (es:Es)
 | comp (N':List Str) (js:List (Option Nat)) (tg:List Nat) (it:It) (cd:Eo) (e:E)
 | lrev (a:E)
inductive Es where
 | nil | cons (e:E) (r:Es)
inductive Eo where
 | no | yes (e:E)
inductive It where
 | seq (e:E) | rng1 (a:E) | rng2 (a b:E) | rngd (a b d:E) | enm (e:E) | zip (es:Es)
end
inductive Tk where
 | drop | ret | set (j:Nat)
set_option genInjectivity false in
mutual
inductive S where
 | ret (e:E) | expr (e:E)
 | set (tg:List Nat) (e:E)
 | put (o i v:E)
 | ite (c:E) (a b:Ss) | for_ (tg:List Nat) (it:It) (b:Ss) | forK (tg:List Nat) (e:E) (b:Ss) | while_ (c:E) (b:Ss)
 | raise (k:Nat) (es:Es)
 | tryN (h:Tk) (f:Nat) (es:Es) (g:Nat) (s:Ss)
inductive Ss where
 | nil | cons (s:S) (r:Ss)
end
noncomputable def Zo(M:Z3)(n:Nat):Option (List D):=match M[n]? with
 | some (.lst xs)=>some xs
 | some (.frz xs)=>some xs
 | _=>none
noncomputable def Zf(M:Z3)(n:Nat):Option (List D):=match M[n]? with
 | some (.lst xs)=>some xs
 | _=>none
noncomputable def Zq(M:Z3)(n:Nat):Option (List (Key×D)):=match M[n]? with
 | some (.dct xs)=>some xs
 | _=>none
noncomputable def Z44(M:Z3)(n:Nat):Option (List (Key×D)):=match M[n]? with
 | some (.dct xs)=>some xs
 | some (.fdc xs)=>some xs
 | _=>none
noncomputable def Xq(M:Z3)(n:Nat):Option (List (List Key×D)):=match M[n]? with
 | some (.dcp xs)=>some xs
 | _=>none
noncomputable def valD{κ:Type}[DecidableEq κ](kvs:List (κ×D))(k:κ):Option D:=(kvs.find? fun kv=>decide (kv.1=k)).map (·.2)
noncomputable def putD{κ:Type}[DecidableEq κ](kvs:List (κ×D))(k:κ)(v:D):List (κ×D):=
 if (kvs.any fun kv=>decide (kv.1=k))=true then kvs.map (fun kv=>if kv.1=k then(kv.1,v) else kv) else kvs++[(k,v)]
noncomputable def keyD:D→Option Key
 | .int i=>some (.inl i)
 | .str x=>some (.inr x)
 | _=>none
noncomputable def kD:Key→D
 | .inl i=> .int i
 | .inr x=> .str x
noncomputable def Tq(ps:List (Key×D)):List D:=ps.map fun p=> .tup [kD p.1,p.2]
noncomputable def Rx(ps:List (Key×D)):List (Key×D):=ps.foldl (fun m p=>putD m p.1 p.2) []
noncomputable def qdiv(i j:Int):Int:=if 0<j then i / j else i.fdiv j
noncomputable def qmod(i j:Int):Int:=if 0<j then i % j else i.fmod j
theorem Y24(i j:Int):i.fdiv j=qdiv i j:=by
 unfold qdiv
 split
 ·exact Int.fdiv_eq_ediv_of_nonneg _ (by omega)
 ·rfl
theorem Zy8(i j:Int):i.fmod j=qmod i j:=by
 unfold qmod
 split
 ·exact Int.fmod_eq_emod_of_nonneg _ (by omega)
 ·rfl
theorem Zi8{i j:Int}(h:0<j):qdiv i j=i / j:=if_pos h
theorem Zi1{i j:Int}(h:0<j):qmod i j=i % j:=if_pos h
def Z22(x:D)(F:Int→Prop):Prop:=match x with
 | .int i=>F i
 | _=>False
def onBl(x:D)(F:Bool→Prop):Prop:=match x with
 | .bl b=>F b
 | _=>False
def N4(x:D)(F:Nat→Prop):Prop:=match x with
 | .ref n=>F n
 | _=>False
def Zs9(x:D)(F:List D→Prop):Prop:=match x with
 | .tup l=>F l
 | _=>False
def Pw(x y:D)(F:Int→Int→Prop):Prop:=Z22 x fun i=>Z22 y fun j=>F i j
def at0(l:List D)(P:Prop):Prop:=match l with
 | []=>P
 | _::_=>False
def at1(l:List D)(F:D→Prop):Prop:=match l with
 | []=>False
 | a::r=>at0 r (F a)
def at2(l:List D)(F:D→D→Prop):Prop:=match l with
 | []=>False
 | a::r=>at1 r (F a)
theorem T2{x:D}(h:Z22 x F):∃i,x= .int i∧F i:=by
 cases x with
 | int i=>exact⟨i,rfl,h⟩
 | _=>exact De h
theorem Zm8{x:D}(h:onBl x F):∃b,x= .bl b∧F b:=by
 cases x with
 | bl b=>exact⟨b,rfl,h⟩
 | _=>exact De h
theorem W8{x:D}(h:N4 x F):∃n,x= .ref n∧F n:=by
 cases x with
 | ref n=>exact⟨n,rfl,h⟩
 | _=>exact De h
theorem G3{x:D}(h:Zs9 x F):∃l,x= .tup l∧F l:=by
 cases x with
 | tup l=>exact⟨l,rfl,h⟩
 | _=>exact De h
theorem Xn{x y:D}(h:Pw x y F):∃i j,x= .int i∧y= .int j∧F i j:=by
 obtain⟨i,rfl,h1⟩:=T2 h
 obtain⟨j,rfl,h2⟩:=T2 h1
 exact⟨i,j,rfl,rfl,h2⟩
theorem Zd2(h:at0 l P):l=[]∧P:=by
 cases l with
 | nil=>exact⟨rfl,h⟩
 | cons _ _=>exact De h
theorem Sr(h:at1 l F):∃a,l=[a]∧F a:=by
 cases l with
 | nil=>exact De h
 | cons a r=>obtain⟨rfl,h1⟩:=Zd2 h;exact⟨a,rfl,h1⟩
theorem Qx(h:at2 l F):∃a b,l=[a,b]∧F a b:=by
 cases l with
 | nil=>exact De h
 | cons a r=>obtain⟨b,rfl,h1⟩:=Sr h;exact⟨a,b,rfl,h1⟩
def addD(x y:D)(M:Z3)(Q:DK):Prop:=match x with
 | .int i=>Z22 y fun j=>Q (.int (i+j)) M
 | .str a=>match y with
  | .str b=>a.length+b.length≤sizeLine∧Q (.str (a++b)) M
  | _=>False
 | .tup a=>Zs9 y fun b=>a≠[]∧a.length+b.length≤sizeLine∧Q (.tup (a++b)) M
 | .ref a=>N4 y fun b=>∃xs ys,Zf M a=some xs∧Zf M b=some ys∧xs.length+ys.length≤sizeLine∧Q (.ref M.length) (M++[.lst (xs++ys)])
 | _=>False
def mulD(x y:D)(M:Z3)(Q:DK):Prop:=match x with
 | .int i=>Z22 y fun j=>IntMulOk i j∧Q (.int (i * j)) M
 | .ref a=>Z22 y fun k=>∃xs,Zf M a=some xs∧0≤k∧k<2 ^ 62∧xs.length * k.toNat≤sizeLine∧Q (.ref M.length) (M++[.lst (Df k.toNat xs).flatten])
 | _=>False
def opD(op:Op)(x y:D)(M:Z3)(Q:DK):Prop:=match op with
 | .add=>addD x y M Q
 | .mul=>mulD x y M Q
 | .sub=>Pw x y fun i j=>Q (.int (i - j)) M
 | .fdiv=>Pw x y fun i j=>Z86 i j∧Q (.int (qdiv i j)) M
 | .mod=>Pw x y fun i j=>j≠0∧Q (.int (qmod i j)) M
 | .pow=>Pw x y fun i j=>CPow i j∧Q (.int (i ^ j.toNat)) M
 | .band=>Pw x y fun i j=>Q (.int (Builtin.bitAnd i j)) M
 | .bxor=>Pw x y fun i j=>Q (.int (Builtin.bitXor i j)) M
mutual
def PD(M:Z3):PyData→D→Prop
 | .none,d=>d= .non
 | .bool b,d=>d= .bl b
 | .int i,d=>d= .int i
 | .str x,d=>d= .str x
 | .list xs,d=>∃n ds,d= .ref n∧Zo M n=some ds∧PDs M xs ds
 | .tuple xs,d=>∃ds,d= .tup ds∧PDs M xs ds
 | .dict _,_=>False
def PDs(M:Z3):List PyData→List D→Prop
 | [],ds=>ds=[]
 | x::xs,ds=>∃d r,ds=d::r∧PD M x d∧PDs M xs r
end
noncomputable def Yt:D→Bool
 | .non | .bl _ | .int _ | .str _=>true
 | _=>false
noncomputable def eqF:D→D→Bool
 | .non,.non=>true
 | .bl a,.bl b=>a==b
 | .bl a,.int b=>(if a then 1 else 0)==b
 | .int a,.bl b=>a==(if b then 1 else 0)
 | .int a,.int b=>a==b
 | .str a,.str b=>a==b
 | _,_=>false
noncomputable def eqFs(xs ys:List D):Bool:=(Hz (min xs.length ys.length)).all (fun j=>eqF (xs.getD j .non) (ys.getD j .non))&&xs.length==ys.length
noncomputable def inD(x:D)(xs:List D):Bool:=xs.any fun y=>eqF y x
noncomputable def eqKV(a b:List (Key×D)):Bool:=a.length==b.length&&a.all fun kv=>match valD b kv.1 with
 | some y=>eqF kv.2 y
 | none=>false
noncomputable def eqS(x y:D):Option Bool:=match x with
 | .int i=>match y with
  | .int j=>some (decide (i=j))
  | .str _=>some false
  | .non=>some false
  | _=>none
 | .str i=>match y with
  | .str j=>some (decide (i=j))
  | .int _=>some false
  | .non=>some false
  | .bl _=>some false
  | _=>none
 | .bl i=>match y with
  | .bl j=>some (decide (i=j))
  | .non=>some false
  | .str _=>some false
  | _=>none
 | .non=>match y with
  | .non=>some true
  | .int _=>some false
  | .bl _=>some false
  | .str _=>some false
  | _=>none
 | _=>none
def eqD(M:Z3)(x y:D)(Q:Bool→Prop):Prop:=match eqS x y with
 | some b=>Q b
 | none=>(∃da db,PD M da x∧PD M db y∧da.canLay0=true∧db.canLay0=true∧min da.depth db.depth≤60∧Q (PyData.eqv da db))∨
   (∃m n a b,x= .ref m∧y= .ref n∧Zq M m=some a∧Zq M n=some b∧(a.all fun kv=>Yt kv.2)=true∧(b.all fun kv=>Yt kv.2)=true∧Q (eqKV a b))∨(∃m n xs,x= .ref m∧y= .ref n∧Zo M m=some xs∧Zo M n=some []∧Q xs.isEmpty)∨(∃xs ys,(x= .tup xs∨x= .gtup xs)∧(y= .tup ys∨y= .gtup ys)∧xs.all Yt=true∧ys.all Yt=true∧Q (eqFs xs ys))
def inQ(M:Z3):D→D→(Bool→Prop)→Prop
 | .str a,.str b,Q=>Q (!(Ky b a 0 b.length 1).isEmpty)
 | x,.ref n,Q=>(∃xs,Zo M n=some xs∧Yt x=true∧xs.all Yt=true∧Q (inD x xs))∨(∃kvs k,Zq M n=some kvs∧keyD x=some k∧Q (valD kvs k).isSome)∨(∃(ys:List D) (xs:List (List D)),x= .tup ys∧Zo M n=some (xs.map .tup)∧ys.all Yt=true∧(xs.all fun zs=>zs.all Yt)=true∧Q (xs.any fun zs=>eqFs zs ys))
 | x,.tup xs,Q=>Yt x=true∧xs.all Yt=true∧Q (inD x xs)
 | x,.gtup xs,Q=>Yt x=true∧xs.all Yt=true∧Q (inD x xs)
 | _,_,_=>False
def cmD(M:Z3)(op:Cm)(x y:D)(Q:Bool→Prop):Prop:=match op with
 | .lt=>Pw x y fun i j=>Q (decide (i<j))
 | .gt=>Pw x y fun i j=>Q (decide (j<i))
 | .eq=>eqD M x y Q
 | .ne=>eqD M x y fun b=>Q (!b)
 | .isin=>inQ M x y Q
 | .notin=>inQ M x y fun b=>Q (!b)
def truD(M:Z3):D→(Bool→Prop)→Prop
 | .non,Q=>Q false
 | .bl b,Q=>Q b
 | .int i,Q=>Q (i !=0)
 | .str x,Q=>x.length≤sizeLine∧Q ((x.length:Int) !=0)
 | .tup xs,Q=>Q (!xs.isEmpty)
 | .ref n,Q=>(∃xs,Zo M n=some xs∧Q (!xs.isEmpty))∨(∃xs,Zq M n=some xs∧Q (!xs.isEmpty))
 | _,_=>False
def ixD(M:Z3):D→D→(D→Prop)→Prop
 | .ref n,k,Q=>(∃xs i d,k= .int i∧Zo M n=some xs∧atI xs i=some d∧Q d)∨(∃kvs y d,Z44 M n=some kvs∧keyD k=some y∧valD kvs y=some d∧Q d)∨(∃kvs ks d,Xq M n=some kvs∧k= .tup (ks.map kD)∧valD kvs ks=some d∧Q d)
 | .tup xs,.int i,Q=>∃d,atI xs i=some d∧Q d
 | .gtup xs,.int i,Q=>∃d,atI xs i=some d∧Q d
 | .str z,.int i,Q=>z.length≤sizeLine∧∃c,atI z.cps.toList i=some c∧Q (.str ⟨#[c]⟩)
 | _,_,_=>False
noncomputable def cutD{α:Type}(xs:List α)(lo hi:Option Int):List α:=(xs.drop (HT.sIx xs.length 0 lo)).take (HT.sIx xs.length xs.length hi - HT.sIx xs.length 0 lo)
def slD:D→Option Int→Option Int→Z3→DK→Prop
 | .str z,lo,hi,M,Q=>z.length≤sizeLine∧Q (.str (Txt.slice z lo hi)) M
 | .ref n,lo,hi,M,Q=>∃xs,Zo M n=some xs∧Q (.ref M.length) (M++[.lst (cutD xs lo hi)])
 | .tup xs,lo,hi,M,Q=>¬(HT.sIx xs.length 0 lo=0∧HT.sIx xs.length xs.length hi=xs.length)∧Q (.tup (cutD xs lo hi)) M
 | _,_,_,_,_=>False
noncomputable def tyD(M:Z3):D→Option String
 | .non=>some "NoneType"
 | .bl _=>some "bool"
 | .int _=>some "int"
 | .str _=>some "str"
 | .tup _=>some "tuple"
 | .ref n=>match M[n]? with
  | some (.lst _)=>some "list"
  | some (.frz _)=>none
  | some (.dct _)=>some "dict"
  | some (.fdc _)=>none
  | some (.dcp _)=>none
  | none=>none
 | _=>none
def isD(K:Ab)(M:Z3):D→D→(Bool→Prop)→Prop
 | .exn _ C _ _,.cls c,Q=>∃b,ExcIs K C∧Hf K (.ref C) (.ref c)=some b∧Q b
 | .exn _ C _ _,.ty c,Q=>∃b,ExcIs K C∧Hf K (.ref C) (.type c)=some b∧Q b
 | .exn _ C _ _,.tup cs,Q=>∃(as:List Addr) (b:Bool),cs=as.map D.cls∧ExcIs K C∧PySem.W.kitAny K (.ref C) (as.map Value.ref)=some b∧Q b
 | d,.ty c,Q=>∃t b,tyD M d=some t∧Hf K (.type t) (.type c)=some b∧Q b
 | _,_,_=>False
def lenD(x:D)(M:Z3)(Q:DK):Prop:=match x with
 | .ref n=>(∃xs,Zo M n=some xs∧Q (.int xs.length) M)∨(∃xs,Zq M n=some xs∧Q (.int xs.length) M)
 | .tup xs=>Q (.int xs.length) M
 | .str x=>x.length≤sizeLine∧Q (.int x.length) M
 | _=>False
def bfD(K:Ab)(b:Bf)(l:List D)(M:Z3)(Q:DK):Prop:=match b with
 | .len=>at1 l fun x=>lenD x M Q
 | .isinst=>at2 l fun d c=>isD K M d c fun b=>Q (.bl b) M
 | .min2=>at2 l fun x y=>Pw x y fun i j=>Q (.int (if j<i then j else i)) M
 | .dict1=>at1 l fun x=>N4 x fun n=>(∃xs,Zq M n=some xs∧Q (.ref M.length) (M++[.dct xs]))∨(∃ps:List (Key×D),Zo M n=some (Tq ps)∧ps.length<sizeLine∧Q (.ref M.length) (M++[.dct (Rx ps)]))
 | .int1=>at1 l fun x=>onBl x fun b=>Q (.int (if b then 1 else 0)) M
def mtD(m:Mt)(o:D)(l:List D)(M:Z3)(Q:DK):Prop:=N4 o fun n=>match m with
 | .append=>at1 l fun d=>∃xs,Zf M n=some xs∧xs.length<sizeLine∧Q .non (M.set n (.lst (xs++[d])))
 | .setd=>at2 l fun t z=>∃(kvs:List (List Key×D)) (ks:List Key),Xq M n=some kvs∧t= .tup (ks.map kD)∧kvs.length<sizeLine∧(∀d,valD kvs ks=some d→Q d M)∧(valD kvs ks=none→Q z (M.set n (.dcp (putD kvs ks z))))
 | .get2=>at2 l fun k z=>∃kvs y,Zq M n=some kvs∧keyD k=some y∧Q ((valD kvs y).getD z) M
 | .pop0=>at0 l (∃xs d,Zf M n=some xs∧xs[xs.length - 1]?=some d∧Q d (M.set n (.lst xs.dropLast)))
 | .extend=>at1 l fun t=>N4 t fun m=>∃xs ys,Zf M n=some xs∧Zf M m=some ys∧xs.length+ys.length≤sizeLine∧Q .non (M.set n (.lst (xs++ys)))
def mtK(m:Mt)(o:D)(M:Z3):Prop:=N4 o fun n=>match m with
 | .get2=>(Zq M n).isSome=true
 | .setd=>(Xq M n).isSome=true
 | _=>(Zo M n).isSome=true
def tgD:List Nat→D→DEnv→(DEnv→Prop)→Prop
 | [i],d,σ,Q=>Q (σ.set i (some d))
 | is,.tup ds,σ,Q=>ds.length=is.length∧Q ((is.zip ds).foldl (fun σ p=>σ.set p.1 (some p.2)) σ)
 | _,_,_,_=>False
inductive Own where
 | no | lst (n:Nat) | enm (n:Nat) | dct (n:Nat) | two (n m:Nat)
noncomputable def Nn(kvs:List (Key×D)):List D:=kvs.map fun p=>kD p.1
def Yd1(n:Nat)(M:Z3)(Q:Z3→Prop):Prop:=∃kvs,M[n]?=some (.fdc kvs)∧Q (M.set n (.dct kvs))
noncomputable def Yf2(n:Nat)(R:DEnds):DEnds:={nx:=fun σ M=>Yd1 n M (R.nx σ),rt:=fun d M=>Yd1 n M (R.rt d),bk:=fun _ _=>False,ct:=fun _ _=>False}
noncomputable def Gr(xs:List D):List D:=xs.mapIdx fun i d=> .tup [.int i,d]
noncomputable def zipT(ys zs:List D):List D:=(ys.zip zs).map fun p=>D.tup [p.1,p.2]
def zip2(M:Z3)(a b:D)(Q:Own→List D→Prop):Prop:=match a with
 | .ref n=>N4 b fun m=>∃ys zs,Zo M n=some ys∧Zo M m=some zs∧Q (.two n m) (zipT ys zs)
 | .tup ys=>Zs9 b fun zs=>Q .no (zipT ys zs)
 | _=>False
def itD(M:Z3):D→(Own→List D→Prop)→Prop
 | .ref n,R=>∃xs,Zo M n=some xs∧R (.lst n) xs
 | .tup xs,R=>R .no xs
 | .gtup xs,R=>R .no xs
 | _,_=>False
noncomputable def Pq(lo:Int)(n:Nat):List D:=(Hz n).map fun(k:Nat)=>D.int (lo+(k:Int))
noncomputable def Bw(lo:Int)(n:Nat):List D:=(Hz n).map fun(k:Nat)=>D.int (lo - (k:Int))
def Pl(own:Own)(xs:List D)(M:Z3):Prop:=match own with
 | .lst n=>Zo M n=some xs
 | .enm n=>∃ys,Zo M n=some ys∧xs=Gr ys
 | .dct n=>∃kvs,M[n]?=some (.fdc kvs)∧xs=Nn kvs
 | .two n m=>∃ys zs,Zo M n=some ys∧Zo M m=some zs∧xs=zipT ys zs
 | .no=>True
def forD(own:Own)(xs:List D)(tg:List Nat)(body:DS):List D→DEnds→DEnv→Z3→Prop
 | [],R,σ,M=>Pl own xs M∧R.nx σ M
 | d::r,R,σ,M=>Pl own xs M∧tgD tg d σ fun σ'=>body {nx:=fun σ2 M2=>forD own xs tg body r R σ2 M2,rt:=R.rt,bk:=R.nx,ct:=fun σ2 M2=>forD own xs tg body r R σ2 M2} σ' M
def Ji(own:Own)(xs:List D)(tg:List Nat)(cd:DT)(el:DE)(z:Nat):List D→DEnv→Z3→(Z3→Prop)→Prop
 | [],_,M,Q=>Pl own xs M∧Q M
 | d::r,σ,M,Q=>Pl own xs M∧tgD tg d σ fun σ'=>cd σ' M fun b M1=>if b=true then
   el σ' M1 fun y M2=>∃acc,Zf M2 z=some acc∧acc.length<sizeLine∧Ji own xs tg cd el z r σ' (M2.set z (.lst (acc++[y]))) Q
   else Ji own xs tg cd el z r σ' M1 Q
noncomputable def capD(js:List (Option Nat))(σ:DEnv):DEnv:=js.map fun o=>o.bind fun j=>(σ[j]?).join
abbrev noX:DX:=fun _ _ _=>False
structure Cfg where
 K:Ab
 Γ:List DSp
 G:List D
mutual
def te(c:Cfg)(X:DX):E→DE
 | .var i,σ,M,Q=>match σ[i]? with
  | some (some d)=>Q d M
  | _=>False
 | .int i,_,M,Q=>Q (.int i) M
 | .bl b,_,M,Q=>Q (.bl b) M
 | .non,_,M,Q=>Q .non M
 | .str x,_,M,Q=>Q (.str x) M
 | .ty n,_,M,Q=>Q (.ty (Xp n)) M
 | .glb k,_,M,Q=>match c.G[k]? with
  | some d=>Q d M
  | none=>False
 | .bin op a b,σ,M,Q=>te c X a σ M fun x M1=>te c X b σ M1 fun y M2=>opD op x y M2 Q
 | .neg a,σ,M,Q=>te c X a σ M fun x M1=>match x with
  | .int i=>Q (.int (-i)) M1
  | _=>False
 | .not a,σ,M,Q=>te c X a σ M fun x M1=>truD M1 x fun b=>Q (.bl (!b)) M1
 | .cmp op a b,σ,M,Q=>te c X a σ M fun x M1=>te c X b σ M1 fun y M2=>cmD M2 op x y fun r=>Q (.bl r) M2
 | .bop k es,σ,M,Q=>tbop c X k es σ M Q
 | .ife t a b,σ,M,Q=>te c X t σ M fun x M1=>truD M1 x fun r=>if r=true then te c X a σ M1 Q else te c X b σ M1 Q
 | .lst es,σ,M,Q=>tes c X es σ M fun ds M1=>ds.length≤sizeLine∧Q (.ref M1.length) (M1++[.lst ds])
 | .tup es,σ,M,Q=>tes c X es σ M fun ds M1=>ds.length≤sizeLine∧Q (.tup ds) M1
 | .dict0,_,M,Q=>Q (.ref M.length) (M++[.dct []])
 | .dictT,_,M,Q=>Q (.ref M.length) (M++[.dcp []])
 | .dct a b,σ,M,Q=>te c X a σ (M++[.dct []]) fun x M1=>te c X b σ M1 fun y M2=>∃k,keyD x=some k∧Zq M2 M.length=some []∧Q (.ref M.length) (M2.set M.length (.dct [(k,y)]))
 | .ix a b,σ,M,Q=>te c X a σ M fun x M1=>te c X b σ M1 fun y M2=>ixD M2 x y fun d=>Q d M2
 | .sl a lo hi,σ,M,Q=>te c X a σ M fun x M1=>teo c X lo σ M1 fun l M2=>teo c X hi σ M2 fun h M3=>slD x l h M3 Q
 | .call f es,σ,M,Q=>tes c X es σ M fun ds M1=>match c.Γ[f]? with
  | some sp=>sp ds M1 Q X
  | none=>False
 | .bf b es,σ,M,Q=>tes c X es σ M fun ds M1=>bfD c.K b ds M1 Q
 | .lrev a,σ,M,Q=>te c X a σ M fun x M1=>N4 x fun n=>∃xs,Zo M1 n=some xs∧Q (.ref M1.length) (M1++[.lst xs.reverse])
 | .mt m o es,σ,M,Q=>te c X o σ M fun x M1=>mtK m x M1∧tes c X es σ M1 fun ds M2=>mtD m x ds M2 Q
 | .comp _ js tg it cd e,σ,M,Q=>tit c X it σ M fun own xs M1=>Ji own xs tg (tcd c noX cd) (te c noX e) M1.length xs (capD js σ) (M1++[.lst []]) fun M2=>Q (.ref M1.length) M2
def tbop(c:Cfg)(X:DX)(k:Bool):Es→DE
 | .nil,_,_,_=>False
 | .cons e .nil,σ,M,Q=>te c X e σ M Q
 | .cons e (.cons e2 r),σ,M,Q=>te c X e σ M fun x M1=>truD M1 x fun b=>if b=k then tbop c X k (.cons e2 r) σ M1 Q else Q x M1
def tes(c:Cfg)(X:DX):Es→DA
 | .nil,_,M,Q=>Q [] M
 | .cons e r,σ,M,Q=>te c X e σ M fun d M1=>tes c X r σ M1 fun ds M2=>Q (d::ds) M2
def teo(c:Cfg)(X:DX):Eo→DEnv→Z3→(Option Int→Z3→Prop)→Prop
 | .no,_,M,Q=>Q none M
 | .yes e,σ,M,Q=>te c X e σ M fun d M1=>match d with
  | .int i=>Q (some i) M1
  | _=>False
def tcd(c:Cfg)(X:DX):Eo→DT
 | .no,_,M,Q=>Q true M
 | .yes e,σ,M,Q=>te c X e σ M fun x M1=>truD M1 x fun b=>Q b M1
def tit(c:Cfg)(X:DX):It→DEnv→Z3→(Own→List D→Z3→Prop)→Prop
 | .seq e,σ,M,Q=>te c X e σ M fun d M1=>itD M1 d fun own xs=>Q own xs M1
 | .rng1 a,σ,M,Q=>te c X a σ M fun d M1=>match d with
  | .int j=> -(2 ^ 62)≤j∧j<2 ^ 62∧Q .no (Pq 0 j.toNat) M1
  | _=>False
 | .rng2 a b,σ,M,Q=>te c X a σ M fun d M1=>te c X b σ M1 fun d2 M2=>match d,d2 with
  | .int i,.int j=>(-(2 ^ 62)≤i∧i<2 ^ 62∧ -(2 ^ 62)≤j∧j<2 ^ 62)∧Q .no (Pq i (j - i).toNat) M2
  | _,_=>False
 | .rngd a b e,σ,M,Q=>te c X a σ M fun d M1=>te c X b σ M1 fun d2 M2=>te c X e σ M2 fun d3 M3=>∃i j:Int,d= .int i∧d2= .int j∧d3= .int (-1)∧(-(2 ^ 62)≤i∧i<2 ^ 62∧ -(2 ^ 62)≤j∧j<2 ^ 62)∧Q .no (Bw i (i - j).toNat) M3
 | .enm e,σ,M,Q=>te c X e σ M fun d M1=>match d with
  | .ref n=>∃xs,Zo M1 n=some xs∧Q (.enm n) (Gr xs) M1
  | _=>False
 | .zip es,σ,M,Q=>tes c X es σ M fun ds M1=>at2 ds fun a b=>zip2 M1 a b fun o xs=>Q o xs M1
end
def tt(c:Cfg)(X:DX)(e:E):DT:=fun σ M Q=>te c X e σ M fun x M1=>truD M1 x fun b=>Q b M1
noncomputable def tkD:Tk→DEnds→DEnv→DK
 | .drop,R,σ=>fun _ M=>R.nx σ M
 | .ret,R,_=>R.rt
 | .set j,R,σ=>fun d M=>R.nx (σ.set j (some d)) M
noncomputable def excD:List D→Option D
 | []=>some .non
 | [d]=>some d
 | _=>none
mutual
def ts(c:Cfg)(X:DX):S→DS
 | .ret e,R,σ,M=>te c X e σ M R.rt
 | .expr e,R,σ,M=>te c X e σ M fun _ M1=>R.nx σ M1
 | .set tg e,R,σ,M=>te c X e σ M fun d M1=>tgD tg d σ fun σ'=>R.nx σ' M1
 | .put o i v,R,σ,M=>te c X v σ M fun d M1=>te c X o σ M1 fun x M2=>te c X i σ M2 fun y M3=>match x with
  | .ref n=>(∃xs k j,y= .int k∧Zf M3 n=some xs∧ixN xs.length k=some j∧R.nx σ (M3.set n (.lst (xs.set j d))))∨
    (∃kvs k,Zq M3 n=some kvs∧keyD y=some k∧kvs.length<sizeLine∧R.nx σ (M3.set n (.dct (putD kvs k d))))∨
    (∃kvs ks,Xq M3 n=some kvs∧y= .tup (ks.map kD)∧kvs.length<sizeLine∧R.nx σ (M3.set n (.dcp (putD kvs ks d))))
  | _=>False
 | .ite t a b,R,σ,M=>tt c X t σ M fun r M1=>if r=true then tss c X a R σ M1 else tss c X b R σ M1
 | .for_ tg it b,R,σ,M=>tit c X it σ M fun own xs M1=>forD own xs tg (tss c X b) xs R σ M1
 | .forK tg e b,R,σ,M=>te c X e σ M fun d M1=>match d with
  | .ref n=>∃kvs,Zq M1 n=some kvs∧forD (.dct n) (Nn kvs) tg (tss c X b) (Nn kvs) (Yf2 n R) σ (M1.set n (.fdc kvs))
  | _=>False
 | .while_ t b,R,σ,M=>∃W:Nat→DEnv→Z3→Prop,(∃m,W m σ M)∧∀m σ M,W m σ M→tt c X t σ M fun r M1=>if r=true then
   tss c X b {nx:=fun σ2 M2=>∃m',m'<m∧W m' σ2 M2,rt:=R.rt,bk:=R.nx,ct:=fun σ2 M2=>∃m',m'<m∧W m' σ2 M2} σ M1 else R.nx σ M1
 | .raise k es,_,σ,M=>match c.G[k]? with
  | some (.cls C)=>tes c X es σ M fun ds M1=>match excD ds with
   | some r=>X C r M1
   | none=>False
  | _=>False
 | .tryN h f es g s,R,σ,M=>match c.G[g]? with
  | some (.cls D)=>tes c noX es σ M fun ds M1=>match c.Γ[f]? with
   | some sp=>sp ds M1 (tkD h R σ) fun C _ M2=>Catch c.K C D true∧tss c noX s R σ M2
   | none=>False
  | _=>False
def tss(c:Cfg)(X:DX):Ss→DS
 | .nil,R,σ,M=>R.nx σ M
 | .cons s r,R,σ,M=>ts c X s {R with nx:=fun σ' M'=>tss c X r R σ' M'} σ M
end
def REnv(w:Vw)(σD:DEnv)(σ:L2.St):Prop:=σD.length=σ.length∧∀(i:Nat) d,σD[i]?=some (some d)→∃v,σ[i]?=some (some v)∧RD w d v
theorem REnv.ext(h:REnv w σD σ)(x:Ext w w'):REnv w' σD σ:=
 ⟨h.1,fun i d e=>by obtain⟨v,q,r⟩:=h.2 i d e;exact⟨v,q,r.ext x⟩⟩
theorem REnv.set{d:D}{v:V}(h:REnv w σD σ)(i:Nat)(r:RD w d v):REnv w (σD.set i (some d)) (σ.set i (some v)):=by
 refine⟨by simp[h.1],fun j d' e=>?_⟩
 by_cases hj:i=j
 ·subst hj
  by_cases hl:i<σD.length
  ·rw[Dq hl] at e
   cases e
   exact⟨v,by rw[Dq (by rw[←h.1];exact hl)],r⟩
  ·rw[Ik (by simp;omega)] at e
   cases e
 ·rw[Dh hj] at e
  rw[Dh hj]
  exact h.2 j d' e
structure StOk(w0 w:Vw)(σD:DEnv)(M:Z3)(σ:L2.St)(H:Hp):Prop where
 heap:w.H=H
 ext:Ext w0 w
 rs:RS w M
 env:REnv w σD σ
theorem StOk.next(s:StOk w0 w σD M σ H)(x:Ext w w')(r:RS w' M'):StOk w0 w' σD M' σ w'.H:=
 ⟨rfl,s.ext.trans x,r,s.env.ext x⟩
def Aft(w:Vw)(QD:DK)(Q:VK):Prop:=∀v w' d M',Ext w w'→RS w' M'→RD w' d v→QD d M'→Q v w'.H
def tF(w0:Vw)(f:DE):TE:=fun σ H Q=>∃w σD M QD,StOk w0 w σD M σ H∧f σD M QD∧Aft w QD Q
def tFA(w0:Vw)(f:DA):TA:=fun σ H Q=>∃w σD M QD,StOk w0 w σD M σ H∧f σD M QD∧∀vs w' ds M',Ext w w'→RS w' M'→RDs w' ds vs→QD ds M'→Q vs w'.H
def tFT(w0:Vw)(f:DT):TT:=fun σ H Q=>∃w σD M QD,StOk w0 w σD M σ H∧f σD M QD∧∀b w' M',Ext w w'→RS w' M'→QD b M'→Q b w'.H
def tFO(w0:Vw)(f:DEnv→Z3→(Option Int→Z3→Prop)→Prop):TO:=fun σ H Q=>∃w σD M QD,StOk w0 w σD M σ H∧f σD M QD∧∀b w' M',Ext w w'→RS w' M'→QD b M'→Q b w'.H
def tFS(w0:Vw)(f:DS):TS:=fun R σ H=>∃w σD M RD',StOk w0 w σD M σ H∧f RD' σD M∧
 (∀σ' w' σD' M',Ext w w'→RS w' M'→REnv w' σD' σ'→RD'.nx σD' M'→R.nx σ' w'.H)∧Aft w RD'.rt R.rt∧
 (∀σ' w' σD' M',Ext w w'→RS w' M'→REnv w' σD' σ'→RD'.bk σD' M'→R.bk σ' w'.H)∧
 (∀σ' w' σD' M',Ext w w'→RS w' M'→REnv w' σD' σ'→RD'.ct σD' M'→R.ct σ' w'.H)
def xkOf(w:Vw)(Z:DX):XK:=fun cls dd H'=>∃C dx r w' row M',cls= .ref C∧dd=some dx∧w'.H=H'∧Ext w w'∧RS w' M'∧H' dx=some (.xd [("row",r)])∧RD w' row r∧Z C row M'
def spF(K:Ab)(sp:DSp):Sp:=fun vs H Q E=>∃w ds M QD Z,w.K=K∧w.H=H∧RS w M∧RDs w ds vs∧sp ds M QD Z∧Aft w QD Q∧∀cls dd H',xkOf w Z cls dd H'→E cls dd H'
theorem Aft.ext(h:Aft w QD Q)(x:Ext w w'):Aft w' QD Q:=fun v w2 d M y r q p=>h v w2 d M (x.trans y) r q p
section
variable{X:Cx}{e:Expr}{w0:Vw}
theorem PE.imp{t t':TE}(h:PE X e t)(k:∀σ H Q,t' σ H Q→t σ H Q):PE X e t':=fun pins s σ H Q I q=>h pins s σ H Q I (k σ H Q q)
theorem PT.imp{t t':TT}(h:PT X e t)(k:∀σ H Q,t' σ H Q→t σ H Q):PT X e t':=fun pins s σ H Q I q=>h pins s σ H Q I (k σ H Q q)
theorem PA.imp{t t':TA}(h:PA X es t)(k:∀σ H Q,t' σ H Q→t σ H Q):PA X es t':=fun pos pins s σ H Q I q=>h pos pins s σ H Q I (k σ H Q q)
theorem PS.imp{st:Stmt}{t t':TS}(h:PS X st t)(k:∀R σ H,t' R σ H→t R σ H):PS X st t':=fun pins s σ H R I q=>h pins s σ H R I (k R σ H q)
theorem PSs.imp{st:List Stmt}{t t':TS}(h:PSs X st t)(k:∀R σ H,t' R σ H→t R σ H):PSs X st t':=fun pins s σ H R I q=>h pins s σ H R I (k R σ H q)
end
def rF(w0:Vw)(g:D→D→Z3→DK→Prop):R2:=fun x y H Q=>∃w M dx dy QD,w.H=H∧Ext w0 w∧RS w M∧RD w dx x∧RD w dy y∧g dx dy M QD∧Aft w QD Q
theorem Zj{i:Int}{v:V}:RD w (.int i) v↔v= .int i:=by unfold RD;exact Lu
theorem Yg{i:Str}{v:V}:RD w (.str i) v↔v= .str i:=by unfold RD;exact Lu
theorem Ww{i:Bool}{v:V}:RD w (.bl i) v↔v= .bl i:=by unfold RD;exact Lu
theorem Xv{v:V}:RD w .non v↔v= .non:=by unfold RD;exact Lu
theorem Zy5{n:String}{v:V}:RD w (.ty n) v↔v= .ty n:=by unfold RD;exact Lu
theorem Ov{n:Addr}{v:V}:RD w (.cls n) v↔v= .ref n:=by unfold RD;exact Lu
theorem Y1{i:Nat}{v:V}:RD w (.ref i) v↔i<w.n∧v= .ref (w.μ i):=by unfold RD;exact Lu
theorem Xc{v:V}:RD w (.tup ds) v↔∃a vs,v= .ref a∧w.H a=some (.tup vs)∧RDs w ds vs:=by unfold RD;exact Lu
theorem S6{v:V}:RD w (.gtup ds) v↔∃a vs,v= .ref a∧SqT w.K w.H a vs∧RDs w ds vs:=by unfold RD;exact Lu
theorem Zf1{v:V}:RD w (.exn e C dx row) v↔v= .ref e∧w.H e=some (XO e (.ref C) (some dx))∧∃r,w.H dx=some (.xd [("row",r)])∧RD w row r:=Iff.of_eq (by rw[RD])
theorem RDs.empty(h:RDs w ds []):ds=[]:=by
 have:=h.length
 exact Ie.mp this.symm
theorem Zy0{n:Nat}(h:Zf M n=some xs):Zo M n=some xs:=by
 unfold Zf at h
 unfold Zo
 split at h
 ·rename_i e;rw[e];exact h
 ·cases h
theorem Ny{n:Nat}(h:Zf M n=some xs):M[n]?=some (.lst xs):=by
 unfold Zf at h
 split at h
 ·rename_i e;rw[e];cases h;rfl
 ·cases h
theorem Sc{n:Nat}(h:Zq M n=some xs):M[n]?=some (.dct xs):=by
 unfold Zq at h
 split at h
 ·rename_i e;rw[e];cases h;rfl
 ·cases h
theorem RS.list{n:Nat}(R:RS w M)(h:Zf M n=some xs):M[n]?=some (.lst xs)∧∃vs,w.H (w.μ n)=some (.lst vs)∧RDs w xs vs:=
 ⟨Ny h,R.cell n _ (Ny h)⟩
theorem RS.listL{n:Nat}(R:RS w M)(h:Zo M n=some xs):n<w.n∧∃vs,SqL w.K w.H (w.μ n) vs∧RDs w xs vs∧True:=by
 unfold Zo at h
 split at h
 ·rename_i ys e
  cases h
  obtain⟨vs,q,r⟩:=R.cell n _ e
  exact⟨by rw[R.len];exact(Af.mp e).1,vs,.inl (.inl q),r,trivial⟩
 ·rename_i ys e
  cases h
  obtain⟨vs,q,r⟩:=R.cell n _ e
  exact⟨by rw[R.len];exact(Af.mp e).1,vs,q.sq,r,trivial⟩
 ·cases h
theorem Zv3{n:Nat}(h:Zq M n=some xs):Z44 M n=some xs:=by
 unfold Z44;rw[Sc h]
theorem RS.dictF{n:Nat}(R:RS w M)(h:Z44 M n=some xs):∃vs,Rd w.H (w.μ n) (.dK vs)∧RKV w xs vs:=by
 unfold Z44 at h
 split at h
 ·rename_i ys e
  cases h
  obtain⟨vs,q1,q2⟩:=R.cell n _ e
  exact⟨vs,.inl q1,q2⟩
 ·rename_i ys e
  cases h
  obtain⟨o,vs,q1,q2⟩:=R.cell n _ e
  exact⟨vs,.inr ⟨o,q1⟩,q2⟩
 ·cases h
theorem RS.dict{n:Nat}(R:RS w M)(h:Zq M n=some xs):M[n]?=some (.dct xs)∧∃vs,w.H (w.μ n)=some (.dK vs)∧RKV w xs vs:=
 ⟨Sc h,R.cell n _ (Sc h)⟩
theorem T9{p:Addr}(R:RS w M)(hp:w.H p=none)(r:RDs w xs vs):Ext w (w.push p (.lst vs))∧RS (w.push p (.lst vs)) (M++[.lst xs])∧RD (w.push p (.lst vs)) (.ref M.length) (.ref p):=by
 refine⟨V8 hp,R.push hp ⟨vs,Zs,r.ext (V8 hp)⟩,Y1.mpr ⟨?_,?_⟩⟩
 ·show M.length<w.n+1
  rw[R.len];omega
 ·show V.ref p=V.ref (if M.length=w.n then p else w.μ M.length)
  rw[if_pos R.len.symm]
theorem Ca{n:Nat}(h:Xq M n=some xs):M[n]?=some (.dcp xs):=by
 unfold Xq at h
 split at h
 ·rename_i e;rw[e];cases h;rfl
 ·cases h
theorem RS.dictP{n:Nat}(R:RS w M)(h:Xq M n=some xs):M[n]?=some (.dcp xs)∧∃vs,w.H (w.μ n)=some (.dT vs)∧RKV w xs vs:=
 ⟨Ca h,R.cell n _ (Ca h)⟩
theorem Za8{p:Addr}(R:RS w M)(hp:w.H p=none)(r:RKV w xs vs):Ext w (w.push p (.dT vs))∧RS (w.push p (.dT vs)) (M++[.dcp xs])∧RD (w.push p (.dT vs)) (.ref M.length) (.ref p):=by
 refine⟨V8 hp,R.push hp ⟨vs,Zs,r.ext (V8 hp)⟩,Y1.mpr ⟨?_,?_⟩⟩
 ·show M.length<w.n+1
  rw[R.len];omega
 ·show V.ref p=V.ref (if M.length=w.n then p else w.μ M.length)
  rw[if_pos R.len.symm]
theorem Qy{n:Nat}(R:RS w M)(hn:M[n]?=some (.dcp ys))(h:w.H (w.μ n)=some (.dT us))(r:RKV w xs vs):Ext w (w.alloc (w.μ n) (.dT vs))∧RS (w.alloc (w.μ n) (.dT vs)) (M.set n (.dcp xs)):=
 ⟨Xy h rfl,R.write hn rfl rfl h rfl ⟨vs,Zs,r.ext (Xy h rfl)⟩⟩
theorem Q8{p:Addr}(R:RS w M)(hp:w.H p=none)(r:RKV w xs vs):Ext w (w.push p (.dK vs))∧RS (w.push p (.dK vs)) (M++[.dct xs])∧RD (w.push p (.dK vs)) (.ref M.length) (.ref p):=by
 refine⟨V8 hp,R.push hp ⟨vs,Zs,r.ext (V8 hp)⟩,Y1.mpr ⟨?_,?_⟩⟩
 ·show M.length<w.n+1
  rw[R.len];omega
 ·show V.ref p=V.ref (if M.length=w.n then p else w.μ M.length)
  rw[if_pos R.len.symm]
theorem Sy{p:Addr}(R:RS w M)(hp:w.H p=none)(r:RDs w xs vs):Ext w (w.alloc p (.tup vs))∧RS (w.alloc p (.tup vs)) M∧RD (w.alloc p (.tup vs)) (.tup xs) (.ref p):=
 ⟨Vl hp,R.alloc hp,Xc.mpr ⟨p,vs,rfl,Zs,r.ext (Vl hp)⟩⟩
theorem Wt{n:Nat}(R:RS w M)(hn:M[n]?=some (.lst ys))(h:w.H (w.μ n)=some (.lst us))(r:RDs w xs vs):Ext w (w.alloc (w.μ n) (.lst vs))∧RS (w.alloc (w.μ n) (.lst vs)) (M.set n (.lst xs)):=
 ⟨Xy h rfl,R.write hn rfl rfl h rfl ⟨vs,Zs,r.ext (Xy h rfl)⟩⟩
theorem Oh{n:Nat}(R:RS w M)(hn:M[n]?=some (.dct ys))(h:w.H (w.μ n)=some (.dK us))(r:RKV w xs vs):Ext w (w.alloc (w.μ n) (.dK vs))∧RS (w.alloc (w.μ n) (.dK vs)) (M.set n (.dct xs)):=
 ⟨Xy h rfl,R.write hn rfl rfl h rfl ⟨vs,Zs,r.ext (Xy h rfl)⟩⟩
section
variable{X:Cx}{w0:Vw}
theorem Vn{f:Value→Value→Sem Value}{g:Int→Int→V}{o:D→D→Z3→DK→Prop}{C:Int→Int→Prop}{k:Int→Int→D}(h:OpR X f (rI C g))(hk:∀w i j,RD w (k i j) (g i j))
  {pins:List (Addr×Obj)} {s:Shared} {σ:L2.St} {x y:V} {v u:Value} {Q:VK} {w:Vw} {M:Z3} {QD:DK} {i j:Int} (I:Inv X pins σ w.H s) (rx:RelV x v) (ry:RelV y u) (R:RS w M) (hx:RD w (.int i) x) (hy:RD w (.int j) y)
  (hc:C i j) (q:QD (k i j) M) (a:Aft w QD Q):wpAny (model X.prog X.w) X.A (f v u) (EP X pins σ Q) X.xe s:=by
 cases Zj.mp hx
 cases Zj.mp hy
 exact h pins s σ w.H _ _ v u Q I rx ry ⟨i,j,rfl,rfl,hc,a _ w _ M (Ext.refl w) R (hk w i j) q⟩
noncomputable def opOf:Op→Operator
 | .add=> .Add | .sub=> .Sub | .mul=> .Mult | .fdiv=> .FloorDiv | .mod=> .Mod | .pow=> .Pow | .band=> .BitAnd | .bxor=> .BitXor
theorem Zk9(h:OpR X f (rI0 g)):OpR X f (rI (fun _ _=>True) g):=fun pins s σ H x y v u Q I rx ry zz70=>by obtain⟨i,j,e1,e2,_,q⟩:=zz70;exact h pins s σ H x y v u Q I rx ry ⟨i,j,e1,e2,q⟩
theorem RDs.rep(h:RDs w xs vs):∀n:Nat,RDs w (Df n xs).flatten (Df n vs).flatten
 | 0=>RDs.nil w
 | n+1=>by
  rw[Ig,Ig,Kk,Kk]
  exact h.append (RDs.rep h n)
theorem Zj1(op:Op):OpR X (binaryOp (opOf op)) (rF w0 (opD op)):=by
 intro pins s σ H x y v u Q I rx ry h
 obtain⟨w,M,dx,dy,QD,rfl,e0,R,hx,hy,g,a⟩:=h
 have ri:∀w (i:Int),RD w (.int i) (.int i):=fun w i=>Zj.mpr rfl
 cases op with
 | add=>
  cases dx with
  | int i=>
   obtain⟨j,rfl,g2⟩:=T2 g;clear g;have g:=g2
   exact Vn (o:=opD .add) (C:=fun _ _=>True) (k:=fun i j=> .int (i+j)) (Zk9 Yc1) (fun w i j=>ri w _) I rx ry R hx hy trivial g a
  | str z=>
   cases dy with
   | str z2=>
    cases Yg.mp hx;cases Yg.mp hy
    exact Z40 pins s σ w.H _ _ v u Q I rx ry ⟨_,_,rfl,rfl,g.1,a _ w _ M (Ext.refl w) R (Yg.mpr rfl) g.2⟩
   | _=>exact De g
  | tup l=>
   obtain⟨l2,rfl,g2⟩:=G3 g;clear g;have g:=g2
   obtain⟨a1,vs1,rfl,h1,r1⟩:=Xc.mp hx
   obtain⟨a2,vs2,rfl,h2,r2⟩:=Xc.mp hy
   obtain⟨g1,g2,g3⟩:=g
   refine Zx8 pins s σ w.H _ _ v u Q I rx ry ⟨a1,a2,vs1,vs2,rfl,rfl,.of h1,.of h2,?_,by rw[r1.length,r2.length];exact g2,fun z=>?_,fun _ p hp=>?_⟩
   ·intro z;subst z;have:=r1.length;simp at this;exact g1 (Ie.mp this.symm)
   ·subst z
    cases r2.empty
    rw[Dn] at g3
    exact a _ w _ M (Ext.refl w) R hx g3
   ·obtain⟨x1,x2,x3⟩:=Sy R hp (r1.append r2)
    exact a _ _ _ M x1 x2 x3 g3
  | ref n=>
   obtain⟨n2,rfl,g2⟩:=W8 g;clear g;have g:=g2
   obtain⟨h1,rfl⟩:=Y1.mp hx
   obtain⟨h2,rfl⟩:=Y1.mp hy
   obtain⟨xs,ys,g1,g2,g3,g4⟩:=g
   obtain⟨_,vs1,q1,r1⟩:=R.list g1
   obtain⟨_,vs2,q2,r2⟩:=R.list g2
   refine Y79 pins s σ w.H _ _ v u Q I rx ry ⟨_,_,vs1,vs2,rfl,rfl,q1,q2,by rw[r1.length,r2.length];exact g3,fun p hp=>?_⟩
   obtain⟨x1,x2,x3⟩:=T9 R hp (r1.append r2)
   exact a _ _ _ _ x1 x2 x3 g4
  | _=>exact De g
 | mul=>
  cases dx with
  | int i=>
   obtain⟨j,rfl,g2⟩:=T2 g;clear g;have g:=g2
   exact Vn (o:=opD .add) (C:=IntMulOk) (k:=fun i j=> .int (i * j)) Y04 (fun w i j=>ri w _) I rx ry R hx hy g.1 g.2 a
  | ref n=>
   obtain⟨k,rfl,g2⟩:=T2 g;clear g;have g:=g2
   obtain⟨h1,rfl⟩:=Y1.mp hx
   cases Zj.mp hy
   obtain⟨xs,g1,g2,g3,g4,g5⟩:=g
   obtain⟨_,vs1,q1,r1⟩:=R.list g1
   refine Y64 pins s σ w.H _ _ v u Q I rx ry ⟨_,_,vs1,rfl,rfl,q1,by omega,by omega,by rw[r1.length];exact g4,fun p hp=>?_⟩
   obtain⟨x1,x2,x3⟩:=T9 R hp (r1.rep _)
   exact a _ _ _ _ x1 x2 x3 g5
  | _=>exact De g
 | sub=>
  obtain⟨i,j,rfl,rfl,g2⟩:=Xn g;clear g;have g:=g2
  exact Vn (o:=opD .add) (C:=fun _ _=>True) (k:=fun i j=> .int (i - j)) (Zk9 Y63) (fun w i j=>ri w _) I rx ry R hx hy trivial g a
 | fdiv=>
  obtain⟨i,j,rfl,rfl,g2⟩:=Xn g;clear g;have g:=g2
  exact Vn (o:=opD .add) (C:=Z86) (k:=fun i j=> .int (qdiv i j)) Zi3 (fun w i j=>by rw[Y24];exact ri w _) I rx ry R hx hy g.1 g.2 a
 | mod=>
  obtain⟨i,j,rfl,rfl,g2⟩:=Xn g;clear g;have g:=g2
  exact Vn (o:=opD .add) (C:=fun _ j=>j≠0) (k:=fun i j=> .int (qmod i j)) Y09 (fun w i j=>by rw[Zy8];exact ri w _) I rx ry R hx hy g.1 g.2 a
 | pow=>
  obtain⟨i,j,rfl,rfl,g2⟩:=Xn g;clear g;have g:=g2
  exact Vn (o:=opD .add) (C:=CPow) (k:=fun i j=> .int (i ^ j.toNat)) Y42 (fun w i j=>ri w _) I rx ry R hx hy g.1 g.2 a
 | band=>
  obtain⟨i,j,rfl,rfl,g2⟩:=Xn g;clear g;have g:=g2
  exact Vn (o:=opD .add) (C:=fun _ _=>True) (k:=fun i j=> .int (Builtin.bitAnd i j)) (Zk9 Y77) (fun w i j=>ri w _) I rx ry R hx hy trivial g a
 | bxor=>
  obtain⟨i,j,rfl,rfl,g2⟩:=Xn g;clear g;have g:=g2
  exact Vn (o:=opD .add) (C:=fun _ _=>True) (k:=fun i j=> .int (Builtin.bitXor i j)) (Zk9 Y86) (fun w i j=>ri w _) I rx ry R hx hy trivial g a
end
def rB(w0:Vw)(g:Z3→D→D→(Bool→Prop)→Prop):R2:=fun x y H Q=>∃w M dx dy QD,w.H=H∧w.K=w0.K∧RS w M∧RD w dx x∧RD w dy y∧g M dx dy QD∧∀b,QD b→Q (.bl b) H
mutual
theorem Z74(R:RS w M):∀(da:PyData) {d:D} {v:V},PD M da d→RD w d v→Rep w.K w.H da v
 | .none,d,v,h,r=>by unfold PD at h;subst h;unfold Rep;exact Xv.mp r
 | .bool b,d,v,h,r=>by unfold PD at h;subst h;unfold Rep;exact Ww.mp r
 | .int b,d,v,h,r=>by unfold PD at h;subst h;unfold Rep;exact Zj.mp r
 | .str b,d,v,h,r=>by unfold PD at h;subst h;unfold Rep;exact Yg.mp r
 | .list xs,d,v,h,r=>by
  unfold PD at h
  obtain⟨n,ds,rfl,h1,h2⟩:=h
  obtain⟨_,rfl⟩:=Y1.mp r
  obtain⟨_,vs,q1,q2,_⟩:=R.listL h1
  unfold Rep
  exact⟨_,vs,rfl,q1,Qe R xs h2 q2⟩
 | .tuple xs,d,v,h,r=>by
  unfold PD at h
  obtain⟨ds,rfl,h2⟩:=h
  obtain⟨a,vs,rfl,q1,q2⟩:=Xc.mp r
  unfold Rep
  exact⟨_,vs,rfl,.of q1,Qe R xs h2 q2⟩
 | .dict _,d,v,h,r=>by unfold PD at h;exact h.elim
theorem Qe(R:RS w M):∀(xs:List PyData) {ds:List D} {vs:List V},PDs M xs ds→RDs w ds vs→Wy w.K w.H xs vs
 | [],ds,vs,h,r=>by unfold PDs at h;subst h;unfold RDs at r;unfold Wy;exact r
 | x::xs,ds,vs,h,r=>by
  unfold PDs at h
  obtain⟨d,r',rfl,h1,h2⟩:=h
  unfold RDs at r
  obtain⟨v,r2,rfl,q1,q2⟩:=r
  unfold Wy
  exact⟨v,r2,rfl,Z74 R x h1 q1,Qe R xs h2 q2⟩
end
theorem Tm{d:D}{v:V}(f:Yt d=true)(r:RD w d v):Ws v=true:=by
 cases d<;>simp[Yt] at f
 ·cases Xv.mp r;rfl
 ·cases Ww.mp r;rfl
 ·cases Zj.mp r;rfl
 ·cases Yg.mp r;rfl
theorem Fv{d e:D}{v u:V}(f:Yt d=true)(g:Yt e=true)(r:RD w d v)(q:RD w e u):eqV v u=eqF d e:=by
 cases d<;>simp[Yt] at f
 all_goals (cases e<;>simp[Yt] at g)
 all_goals first
  |(first | cases Xv.mp r | cases Ww.mp r | cases Zj.mp r | cases Yg.mp r)
 all_goals first
  |(first | cases Xv.mp q | cases Ww.mp q | cases Zj.mp q | cases Yg.mp q)
 all_goals rfl
theorem Zr0{x:D}{v:V}(f:Yt x=true)(r:RD w x v):∀{ds:List D} {vs:List V},ds.all Yt=true→RDs w ds vs→inV v vs=inD x ds∧vs.all Ws=true
 | [],vs,_,h=>by unfold RDs at h;subst h;exact⟨rfl,rfl⟩
 | d::ds,vs,g,h=>by
  unfold RDs at h
  obtain⟨v1,r1,rfl,h1,h2⟩:=h
  simp only[Hu,Bool.and_eq_true] at g
  obtain⟨i1,i2⟩:=Zr0 f r g.2 h2
  refine⟨?_,by simp only[Hu,Bool.and_eq_true];exact⟨Tm g.1 h1,i2⟩⟩
  unfold inV inD at *
  rw[Ip,Ip,Fv g.1 f h1 r,i1]
theorem RKV.val{κ:Type}[DecidableEq κ]:∀{ds:List (κ×D)} {vs:List (κ×V)} (k:κ),RKV w ds vs→(valD ds k=none∧valV vs k=none)∨∃d v,valD ds k=some d∧valV vs k=some v∧RD w d v
 | [],vs,k,h=>by unfold RKV at h;subst h;exact .inl ⟨rfl,rfl⟩
 |(k',d)::ds,vs,k,h=>by
  unfold RKV at h
  obtain⟨v,r,rfl,h1,h2⟩:=h
  by_cases e:k'=k
  ·exact .inr ⟨d,v,by simp[valD,Hk,e],by simp[valV,Hk,e],h1⟩
  ·have:=RKV.val k h2
   simpa[valD,valV,Hk,e] using this
theorem RKV.length{κ:Type}:∀{ds:List (κ×D)} {vs:List (κ×V)},RKV w ds vs→vs.length=ds.length
 | [],vs,h=>by unfold RKV at h;subst h;rfl
 |(k',d)::ds,vs,h=>by
  unfold RKV at h
  obtain⟨v,r,rfl,h1,h2⟩:=h
  simp[RKV.length h2]
theorem RKV.any{κ:Type}[DecidableEq κ](k:κ):∀{ds:List (κ×D)} {vs:List (κ×V)},RKV w ds vs→(vs.any fun kv=>decide (kv.1=k))=(ds.any fun kv=>decide (kv.1=k))
 | [],vs,h=>by unfold RKV at h;subst h;rfl
 |(k',d)::ds,vs,h=>by
  unfold RKV at h
  obtain⟨v,r,rfl,h1,h2⟩:=h
  simp[RKV.any k h2]
theorem RKV.repl{κ:Type}[DecidableEq κ]{k:κ}{d:D}{v:V}(q:RD w d v):∀{ds:List (κ×D)} {vs:List (κ×V)},RKV w ds vs→RKV w (ds.map fun kv=>if kv.1=k then(kv.1,d) else kv) (vs.map fun kv=>if kv.1=k then(kv.1,v) else kv)
 | [],vs,h=>by unfold RKV at h;subst h;unfold RKV;rfl
 |(k',d')::ds,vs,h=>by
  unfold RKV at h
  obtain⟨v',r,rfl,h1,h2⟩:=h
  simp only[Dd]
  by_cases e:k'=k
  ·rw[if_pos e,if_pos e]
   unfold RKV
   exact⟨v,_,rfl,q,RKV.repl q h2⟩
  ·rw[if_neg e,if_neg e]
   unfold RKV
   exact⟨v',_,rfl,h1,RKV.repl q h2⟩
theorem RKV.snoc{κ:Type}{k:κ}{d:D}{v:V}(q:RD w d v):∀{ds:List (κ×D)} {vs:List (κ×V)},RKV w ds vs→RKV w (ds++[(k,d)]) (vs++[(k,v)])
 | [],vs,h=>by unfold RKV at h;subst h;unfold RKV;exact⟨v,[],rfl,q,by unfold RKV;rfl⟩
 |(k',d')::ds,vs,h=>by
  unfold RKV at h
  obtain⟨v',r,rfl,h1,h2⟩:=h
  show RKV w ((k',d')::(ds++[(k,d)])) _
  unfold RKV
  exact⟨v',_,rfl,h1,RKV.snoc q h2⟩
theorem RKV.put{κ:Type}[DecidableEq κ]{w:Vw}{k:κ}{d:D}{v:V}(q:RD w d v){ds:List (κ×D)}{vs:List (κ×V)}(h:RKV w ds vs):RKV w (putD ds k d) (putK vs k v):=by
 unfold putD putK
 rw[h.any k]
 split
 ·exact h.repl q
 ·exact h.snoc q
theorem G8:∀{ks:List Key} {vs:List V},RDs w (ks.map kD) vs→vs=ks.map kV
 | [],vs,h=>by unfold RDs at h;exact h
 | k::ks,vs,h=>by
  rw[Dd] at h
  unfold RDs at h
  obtain⟨v,r,rfl,h1,h2⟩:=h
  rw[G8 h2]
  cases k with
  | inl i=>rw[Zj.mp h1];rfl
  | inr x=>rw[Yg.mp h1];rfl
theorem Ft{w:Vw}{ks:List Key}{v:V}(r:RD w (.tup (ks.map kD)) v):∃b,v= .ref b∧w.H b=some (.tup (ks.map kV)):=by
 obtain⟨b,vs,rfl,h1,h2⟩:=Xc.mp r
 exact⟨b,rfl,by rw[←G8 h2];exact h1⟩
theorem Pg{d:D}{k:Key}{v:V}(h:keyD d=some k)(r:RD w d v):v=kV k:=by
 cases d<;>simp[keyD] at h
 ·subst h;exact Zj.mp r
 ·subst h;exact Yg.mp r
section
variable{X:Cx}{w0:Vw}
noncomputable def cmOf:Cm→CmpOp
 | .lt=> .Lt | .gt=> .Gt | .eq=> .Eq | .ne=> .NotEq | .isin=> .In | .notin=> .NotIn
theorem Y49(hu:X.A.units+64<cLine):OpR X (compareOp .NotEq) (rEqD X.K true):=by
 intro pins s σ H x y v u Q I rx ry h
 obtain⟨da,db,h1,h2,h3,h4,h5,q⟩:=h
 obtain⟨as,q1⟩:=Rep.reads I da x v h1 rx
 obtain⟨bs,q2⟩:=Rep.reads I db y u h2 ry
 exact PySem.SeqAt.compareNe_reads q1 q2 h3 h4 (by omega) ⟨.bl _,H,I,rfl,q⟩
theorem G6{w:Vw}{pins:List (Addr×Obj)}{σ:L2.St}{s:Shared}{A:Around}{b:List (Key×D)}{vb:List (Key×V)}{ub:List (Key×Value)}(rb:RKV w b vb)(kb:KV vb ub)(fb:(b.all fun kv=>Yt kv.2)=true):
  ∀{a:List (Key×D)} {va:List (Key×V)} {ua:List (Key×Value)},(a.all fun kv=>Yt kv.2)=true→RKV w a va→KV va ua→PySem.W.KeqHits A s ub ua (a.all fun kv=>match valD b kv.1 with
   | some y=>eqF kv.2 y
   | none=>false)
 | [],va,ua,_,h,k=>by
  unfold RKV at h;subst h
  cases k
  exact .nil
 |(k0,d)::a,va,ua,f,h,k=>by
  unfold RKV at h
  obtain⟨v,r,rfl,h1,h2⟩:=h
  simp only[Hu,Bool.and_eq_true] at f
  cases k with
  | @cons _ q _ ur hk kr=>
   obtain⟨k1,u⟩:=q
   obtain⟨e1,e2⟩:=hk
   dsimp only at e1 e2
   subst e1
   have ih:=G6 (A:=A) (s:=s) (pins:=pins) (σ:=σ) rb kb fb f.2 h2 kr
   rw[Hu]
   rcases rb.val k0 with⟨n1,n2⟩ | ⟨y,vy,n1,n2,n3⟩
   ·have hz:=kb.val k0
    rw[n2] at hz
    have hz':valueAt ub k0=none:=RelO.none_of hz
    simp only[n1,Bool.false_and]
    exact .miss hz'
   ·have hz:=kb.val k0
    rw[n2] at hz
    obtain⟨uy,ey,ry⟩:=hz.some_of
    have fy:Yt y=true:=by
     have hm:(k0,y)∈b:=by
      unfold valD at n1
      obtain⟨p,hp,e⟩:=Dm.mp n1
      have:=List.find?_some hp
      have hk:p.1=k0:=of_decide_eq_true this
      have:=List.mem_of_find?_eq_some hp
      rw[←e,←hk];exact this
     exact(Hy.mp fb) _ hm
    simp only[n1]
    refine .hit ey ?_ ih
    rw[←Fv f.1 fy h1 n3]
    exact Ba e2 ry (Tm f.1 h1) (Tm fy n3)
theorem Vr:∀{ds:List D} {vs:List V},ds.all Yt=true→RDs w ds vs→vs.all Ws=true
 | [],vs,_,r=>by unfold RDs at r;subst r;rfl
 | d::ds,vs,f,r=>by
  unfold RDs at r
  obtain⟨v,vr,rfl,h1,h2⟩:=r
  rw[Hu,Bool.and_eq_true] at f
  rw[Hu,Tm f.1 h1,Vr f.2 h2]
  rfl
theorem B5(f:xs.all Yt=true)(g:ys.all Yt=true)(r:RDs w xs vs)(q:RDs w ys us):eqVs vs us=eqFs xs ys:=by
 unfold eqVs eqFs
 rw[r.length,q.length]
 congr 1
 have:∀j∈Hz (min xs.length ys.length),eqV (vs.getD j .non) (us.getD j .non)=eqF (xs.getD j .non) (ys.getD j .non):=by
  intro j hj
  rw[Lm] at hj
  have j1:j<xs.length:=by omega
  have j2:j<ys.length:=by omega
  obtain⟨v,e1,r1⟩:=r.get (Ai j1)
  obtain⟨u,e2,r2⟩:=q.get (Ai j2)
  rw[Hy] at f g
  simp only[Hv,e1,e2,Ai j1,Ai j2,Option.getD_some]
  exact Fv (f _ (Ht j1)) (g _ (Ht j2)) r1 r2
 rw[Bool.eq_iff_iff,Hy,Hy]
 constructor
 ·intro h j hj;rw[←this j hj];exact h j hj
 ·intro h j hj;rw[this j hj];exact h j hj
theorem C4(hK:X.K=w0.K)(hu:X.A.units+64<cLine)(neg:Bool):OpR X (compareOp (if neg then .NotEq else .Eq)) (rB w0 fun M x y Q=>eqD M x y fun b=>Q (if neg then !b else b)):=by
 intro pins s σ H x y v u Q I rx ry h
 obtain⟨w,M,dx,dy,QD,rfl,e0,R,hx,hy,g,a⟩:=h
 have key:∀b:Bool,(scal x y=true∧decide (x=y)=b)→QD (if neg then !b else b)→wpAny (model X.prog X.w) X.A (compareOp (if neg then .NotEq else .Eq) v u) (EP X pins σ Q) X.xe s:=by
  rintro b ⟨h1,h2⟩ hq
  cases neg with
  | true=>exact Yg2 pins s σ w.H x y v u Q I rx ry ⟨h1,by rw[h2];exact a _ hq⟩
  | false=>exact Yg5 pins s σ w.H x y v u Q I rx ry ⟨h1,by rw[h2];exact a _ hq⟩
 have hs:∀b,eqS dx dy=some b→scal x y=true∧decide (x=y)=b:=by
  intro b h
  cases dx with
  | int i=>
   cases Zj.mp hx
   cases dy with
   | int j=>cases Zj.mp hy;cases h;exact⟨rfl,by simp⟩
   | str j=>cases Yg.mp hy;cases h;exact⟨rfl,by simp⟩
   | non=>cases Xv.mp hy;cases h;exact⟨rfl,by simp⟩
   | _=>cases h
  | str i=>
   cases Yg.mp hx
   cases dy with
   | str j=>cases Yg.mp hy;cases h;exact⟨rfl,by simp⟩
   | int j=>cases Zj.mp hy;cases h;exact⟨rfl,by simp⟩
   | non=>cases Xv.mp hy;cases h;exact⟨rfl,by simp⟩
   | bl j=>cases Ww.mp hy;cases h;exact⟨rfl,by simp⟩
   | _=>cases h
  | bl i=>
   cases Ww.mp hx
   cases dy with
   | bl j=>cases Ww.mp hy;cases h;exact⟨rfl,by simp⟩
   | non=>cases Xv.mp hy;cases h;exact⟨rfl,by simp⟩
   | str j=>cases Yg.mp hy;cases h;exact⟨rfl,by simp⟩
   | _=>cases h
  | non=>
   cases Xv.mp hx
   cases dy with
   | non=>cases Xv.mp hy;cases h;exact⟨rfl,by simp⟩
   | int j=>cases Zj.mp hy;cases h;exact⟨rfl,by simp⟩
   | bl j=>cases Ww.mp hy;cases h;exact⟨rfl,by simp⟩
   | str j=>cases Yg.mp hy;cases h;exact⟨rfl,by simp⟩
   | _=>cases h
  | _=>cases h
 unfold eqD at g
 cases hb:eqS dx dy with
 | some b=>
  rw[hb] at g
  exact key b (hs b hb) g
 | none=>
  rw[hb] at g
  rcases g with⟨da,db,p1,p2,p3,p4,p5,g⟩ | ⟨m,n,ka,kb,rfl,rfl,p1,p2,f1,f2,g⟩ | ⟨m,n,xs,rfl,rfl,p1,p2,g⟩ | ⟨xs,ys,ex,ey,f1,f2,g⟩
  ·have q1:=Z74 R da p1 hx
   have q2:=Z74 R db p2 hy
   rw[e0,←hK] at q1 q2
   cases neg with
   | true=>exact Y49 hu pins s σ w.H x y v u Q I rx ry ⟨da,db,q1,q2,p3,p4,p5,a _ g⟩
   | false=>exact Ya7 hu pins s σ w.H x y v u Q I rx ry ⟨da,db,q1,q2,p3,p4,p5,a _ g⟩
  ·obtain⟨_,rfl⟩:=Y1.mp hx
   obtain⟨_,rfl⟩:=Y1.mp hy
   obtain⟨_,va,ha,ra⟩:=R.dict p1
   obtain⟨_,vb,hb,rb⟩:=R.dict p2
   cases (show v=Value.ref (w.μ m) from rx)
   cases (show u=Value.ref (w.μ n) from ry)
   obtain⟨_,s1,ua,k1,d1⟩:=Z11 I.hok ha
   obtain⟨_,s2,ub,k2,d2⟩:=Z11 I.hok hb
   have hits:=G6 (A:=X.A.in1) (s:=s) (pins:=pins) (σ:=σ) rb k2 f2 f1 ra k1
   have hl:(ua.length==ub.length&&(ka.all fun kv=>match valD kb kv.1 with
    | some y=>eqF kv.2 y
    | none=>false))=eqKV ka kb:=by
    unfold eqKV
    rw[←k1.length,←k2.length,ra.length,rb.length]
    all_goals rfl
   cases neg with
   | true=>exact PySem.W.keq_ne s1 s2 d1 d2 (by omega) (fun _=>hits) ⟨.bl _,w.H,I,rfl,by rw[hl];exact a _ g⟩
   | false=>exact PySem.W.keq_eq s1 s2 d1 d2 (by omega) (fun _=>hits) ⟨.bl _,w.H,I,rfl,by rw[hl];exact a _ g⟩
  ·obtain⟨_,rfl⟩:=Y1.mp hx
   obtain⟨_,rfl⟩:=Y1.mp hy
   obtain⟨_,va,ha,ra,_⟩:=R.listL p1
   obtain⟨_,vb,hb,rb,_⟩:=R.listL p2
   rw[e0,←hK] at ha hb
   unfold RDs at rb
   subst rb
   cases (show v=Value.ref (w.μ m) from rx)
   cases (show u=Value.ref (w.μ n) from ry)
   have he:va.isEmpty=xs.isEmpty:=by have:=ra.length;cases va<;>cases xs<;>simp_all
   exact Zh8 I hu neg ha hb (by rw[he];exact a _ g)
  ·have tp:∀{d:D} {zs:List D} {x:V},(d= .tup zs∨d= .gtup zs)→RD w d x→∃p vs,x= .ref p∧SqT X.K w.H p vs∧RDs w zs vs:=by
    rintro d zs x (rfl | rfl) r
    ·obtain⟨p,vs,e,q1,q2⟩:=Xc.mp r
     exact⟨p,vs,e,.of q1,q2⟩
    ·obtain⟨p,vs,e,q1,q2⟩:=S6.mp r
     rw[e0,←hK] at q1
     exact⟨p,vs,e,q1,q2⟩
   obtain⟨p,va,rfl,ha,ra⟩:=tp ex hx
   obtain⟨p2,vb,rfl,hb,rb⟩:=tp ey hy
   cases (show v=Value.ref p from rx)
   cases (show u=Value.ref p2 from ry)
   exact Zv5 I hu neg ha hb (Vr f1 ra) (Vr f2 rb) (by rw[B5 f1 f2 ra rb];exact a _ g)
theorem Fc:∀{xs:List (List D)} {vs:List V},RDs w (xs.map .tup) vs→(xs.all fun zs=>zs.all Yt)=true→∃ts:List (List V),ts.length=vs.length∧(∀(j:Nat) u,vs[j]?=some u→∃a us,u= .ref a∧w.H a=some (.tup us)∧ts[j]?=some us∧us.all Ws=true)∧∀(ys:List D) (t:List V),ys.all Yt=true→RDs w ys t→(ts.any fun us=>eqVs us t)=xs.any fun zs=>eqFs zs ys
 | [],vs,h,_=>by
  rw[Ih] at h
  unfold RDs at h
  subst h
  exact⟨[],rfl,fun j u e=>by simp at e,fun _ _ _ _=>rfl⟩
 | z::zs,vs,h,f=>by
  rw[Dd] at h
  unfold RDs at h
  obtain⟨v,r,rfl,h1,h2⟩:=h
  rw[Hu,Bool.and_eq_true] at f
  obtain⟨a,us,rfl,k1,k2⟩:=Xc.mp h1
  obtain⟨ts,t1,t2,t3⟩:=Fc h2 f.2
  refine⟨us::ts,by rw[An,An,t1],fun j u e=>?_,fun ys t fy ry=>by rw[Ip,Ip,t3 ys t fy ry,B5 f.1 fy k2 ry]⟩
  cases j with
  | zero=>cases e;exact⟨a,us,rfl,k1,rfl,Vr f.1 k2⟩
  | succ j=>
   obtain⟨a',us',e1,e2,e3,e4⟩:=t2 j u (by simpa using e)
   exact⟨a',us',e1,e2,by simpa using e3,e4⟩
theorem Ye1{s:Shared}(I:Inv X pins σ H s)(hu:X.A.units+64<cLine)(neg:Bool){p b:Addr}{ts:List (List V)}{t:List V}(hx:SqL X.K H p xs)(hl:xs.length=ts.length)(ht:∀(j:Nat) u,xs[j]?=some u→∃a us,u= .ref a∧H a=some (.tup us)∧ts[j]?=some us∧us.all Ws=true)(hb:H b=some (.tup t))(ft:t.all Ws=true)
  (q:Q (.bl (if neg then !(ts.any fun us=>eqVs us t) else ts.any fun us=>eqVs us t)) H):
  wpAny (model X.prog X.w) X.A (compareOp (if neg then .NotIn else .In) (.ref b) (.ref p)) (EP X pins σ Q) X.xe s:=by
 obtain⟨its,r,pl,hz⟩:=I.list hx
 have at':∀(j:Nat) w,its[j]?=some w→∃a us,w= .ref a∧H a=some (.tup us)∧ts[j]?=some us∧us.all Ws=true:=by
  intro j w hw
  have hj:j<xs.length:=by rw[r.length];exact(Af.mp hw).1
  obtain⟨a,us,e1,e2,e3,e4⟩:=ht j xs[j] (Ai hj)
  obtain⟨w',w1,w2⟩:=r.get (Ai hj)
  rw[hw] at w1
  cases w1
  rw[e1] at w2
  cases w2
  exact⟨a,us,rfl,e2,e3,e4⟩
 have ev:∀(a:Addr) (us:List V),H a=some (.tup us)→eqUT H t (.ref a)=eqVs us t:=by
  intro a us e
  show(match H a with | some (.tup vs)=>eqVs vs t | _=>false)=_
  rw[e]
 have he:∀w∈its.toArray,Dt X.A.in1 s w (.ref b) (eqUT H t w):=by
  intro w hw
  obtain⟨j,hj⟩:=List.getElem?_of_mem (show w∈its by simpa using hw)
  obtain⟨a,us,rfl,e2,e3,e4⟩:=at' j w hj
  rw[ev a _ e2]
  exact Yb3 I (by show X.A.units+1+2<cLine;omega) e2 hb e4 ft
 have any:its.toArray.any (eqUT H t)=ts.any fun us=>eqVs us t:=by
  rw[show its.toArray.any (eqUT H t)=its.any (eqUT H t) by simp]
  have:its.map (eqUT H t)=ts.map fun us=>eqVs us t:=by
   refine List.ext_getElem? fun j=>?_
   rw[Ax,Ax]
   cases hw:its[j]? with
   | none=>
    rw[Ik (by rw[←hl,r.length];exact List.getElem?_eq_none_iff.mp hw)]
    rfl
   | some w=>
    obtain⟨a,us,rfl,e2,e3,e4⟩:=at' j w hw
    rw[e3]
    show some _=some _
    rw[ev a _ e2]
  have e1:its.any (eqUT H t)=(its.map (eqUT H t)).any id:=by rw[List.any_map];rfl
  have e2:(ts.any fun us=>eqVs us t)=(ts.map fun us=>eqVs us t).any id:=by rw[List.any_map];rfl
  rw[e1,e2,this]
 cases neg with
 | true=>exact SeqAt.notIn_listAt (eqUT H t) pl.isList he ⟨.bl _,H,I,rfl,by rw[any];exact q⟩
 | false=>exact SeqAt.in_listAt (eqUT H t) pl.isList he ⟨.bl _,H,I,rfl,by rw[any];exact q⟩
theorem C7(hK:X.K=w0.K)(hu:X.A.units+64<cLine)(neg:Bool):OpR X (compareOp (if neg then .NotIn else .In)) (rB w0 fun M x y Q=>inQ M x y fun b=>Q (if neg then !b else b)):=by
 intro pins s σ H x y v u Q I rx ry h
 obtain⟨w,M,dx,dy,QD,rfl,e0,R,hx,hy,g,a⟩:=h
 have seq:∀{p:Addr} {vs:List V} {xs:List D},y= .ref p→(SqL X.K w.H p vs∨SqT X.K w.H p vs)→RDs w xs vs→Yt dx=true→xs.all Yt=true→QD (if neg then !inD dx xs else inD dx xs)→
   wpAny (model X.prog X.w) X.A (compareOp (if neg then .NotIn else .In) v u) (EP X pins σ Q) X.xe s:=by
  intro p vs xs ey q1 q2 g2 g3 g4
  obtain⟨i1,i2⟩:=Zr0 g2 hx g3 q2
  cases neg with
  | true=>exact Jf pins s σ w.H _ _ v u Q I rx ry ⟨p,vs,ey,q1,Tm g2 hx,i2,by rw[i1];exact a _ g4⟩
  | false=>exact Z61 pins s σ w.H _ _ v u Q I rx ry ⟨p,vs,ey,q1,Tm g2 hx,i2,by rw[i1];exact a _ g4⟩
 unfold inQ at g
 split at g
 ·cases Yg.mp hx;cases Yg.mp hy
  cases neg with
  | true=>exact Gj pins s σ w.H _ _ v u Q I rx ry ⟨_,_,rfl,rfl,a _ g⟩
  | false=>exact Ze6 pins s σ w.H _ _ v u Q I rx ry ⟨_,_,rfl,rfl,a _ g⟩
 ·obtain⟨_,rfl⟩:=Y1.mp hy
  rcases g with⟨xs,g1,g2,g3,g4⟩ | ⟨kvs,k,g1,g2,g3⟩ | ⟨ys,xs,rfl,g1,g2,g3,g4⟩
  ·obtain⟨_,vs,q1,q2,_⟩:=R.listL g1
   rw[e0,←hK] at q1
   exact seq rfl (.inl q1) q2 g2 g3 g4
  ·obtain⟨_,vs,q1,q2⟩:=R.dict g1
   cases Pg g2 hx
   cases (show u=Value.ref _ from ry)
   have hv:valV vs k=none∧valD kvs k=none∨∃d v',valD kvs k=some d∧valV vs k=some v':=by
    rcases q2.val k with⟨n1,n2⟩ | ⟨d,v',n1,n2,_⟩
    ·exact .inl ⟨n2,n1⟩
    ·exact .inr ⟨d,v',n1,n2⟩
   have hb:(valV vs k).isSome=(valD kvs k).isSome:=by
    rcases hv with⟨n1,n2⟩ | ⟨d,v',n1,n2⟩
    ·rw[n1,n2];rfl
    ·rw[n1,n2];rfl
   have hu1:X.A.units+1<cLine:=by omega
   cases neg with
   | true=>exact Zx1 hu1 I (DGet.k (k:=k) q1) rx fun s' I'=>⟨.bl (!(valV vs k).isSome),w.H,I',rfl,by rw[hb];exact a _ g3⟩
   | false=>exact d_in hu1 I (DGet.k (k:=k) q1) rx fun s' I'=>⟨.bl (valV vs k).isSome,w.H,I',rfl,by rw[hb];exact a _ g3⟩
  ·obtain⟨_,vs,q1,q2,_⟩:=R.listL g1
   rw[e0,←hK] at q1
   obtain⟨b,us,rfl,hb,rb⟩:=Xc.mp hx
   cases (show v=Value.ref b from rx)
   cases (show u=Value.ref _ from ry)
   obtain⟨ts,h1,h2,h3⟩:=Fc q2 g3
   refine Ye1 I hu neg q1 h1.symm h2 hb (Vr g2 rb) ?_
   rw[h3 _ _ g2 rb]
   exact a _ g4
 ·obtain⟨p,vs,e,q1,q2⟩:=Xc.mp hy
  exact seq e (.inr (.of q1)) q2 g.1 g.2.1 g.2.2
 ·obtain⟨p,vs,e,q1,q2⟩:=S6.mp hy
  rw[e0,←hK] at q1
  exact seq e (.inr q1) q2 g.1 g.2.1 g.2.2
 ·exact g.elim
theorem C5(hK:X.K=w0.K)(hu:X.A.units+64<cLine)(op:Cm):OpR X (compareOp (cmOf op)) (rB w0 fun M=>cmD M op):=by
 intro pins s σ H x y v u Q I rx ry h
 obtain⟨w,M,dx,dy,QD,rfl,e0,R,hx,hy,g,a⟩:=h
 cases op with
 | lt=>
  obtain⟨i,j,rfl,rfl,g2⟩:=Xn g;clear g;have g:=g2
  cases Zj.mp hx;cases Zj.mp hy
  exact Yg9 pins s σ w.H _ _ v u Q I rx ry ⟨_,_,rfl,rfl,a _ g⟩
 | gt=>
  obtain⟨i,j,rfl,rfl,g2⟩:=Xn g;clear g;have g:=g2
  cases Zj.mp hx;cases Zj.mp hy
  exact Yh3 pins s σ w.H _ _ v u Q I rx ry ⟨_,_,rfl,rfl,a _ g⟩
 | eq=>
  exact C4 hK hu false pins s σ w.H x y v u Q I rx ry ⟨w,M,_,_,QD,rfl,e0,R,hx,hy,g,a⟩
 | ne=>
  exact C4 hK hu true pins s σ w.H x y v u Q I rx ry ⟨w,M,_,_,QD,rfl,e0,R,hx,hy,g,a⟩
 | isin=>
  exact C7 hK hu false pins s σ w.H x y v u Q I rx ry ⟨w,M,_,_,QD,rfl,e0,R,hx,hy,g,a⟩
 | notin=>
  exact C7 hK hu true pins s σ w.H x y v u Q I rx ry ⟨w,M,_,_,QD,rfl,e0,R,hx,hy,g,a⟩
end
theorem RKV.isEmpty(h:RKV w ds vs):vs.isEmpty=ds.isEmpty:=by
 cases ds with
 | nil=>unfold RKV at h;subst h;rfl
 | cons p ds=>obtain⟨k,d⟩:=p;unfold RKV at h;obtain⟨v,r,rfl,_⟩:=h;rfl
theorem RDs.isEmpty(h:RDs w ds vs):vs.isEmpty=ds.isEmpty:=by
 cases ds with
 | nil=>unfold RDs at h;subst h;rfl
 | cons d ds=>unfold RDs at h;obtain⟨v,r,rfl,_⟩:=h;rfl
theorem Sg{K:Ab}{d:D}{x:V}(hK:w.K=K)(R:RS w M)(r:RD w d x)(g:truD M d QD):∃k,TruV K x w.H k∧QD k:=by
 unfold truD at g
 split at g
 ·cases Xv.mp r;exact⟨_,rfl,g⟩
 ·cases Ww.mp r;exact⟨_,rfl,g⟩
 ·cases Zj.mp r;exact⟨_,rfl,g⟩
 ·cases Yg.mp r;exact⟨_,⟨g.1,rfl⟩,g.2⟩
 ·obtain⟨a,vs,rfl,q1,q2⟩:=Xc.mp r
  exact⟨_,.inr (.inl ⟨vs,.of q1,rfl⟩),by rw[q2.isEmpty];exact g⟩
 ·obtain⟨_,rfl⟩:=Y1.mp r
  rcases g with⟨xs,g1,g2⟩ | ⟨xs,g1,g2⟩
  ·obtain⟨_,vs,q1,q2,_⟩:=R.listL g1
   rw[hK] at q1
   exact⟨_,.inl ⟨vs,q1,rfl⟩,by rw[q2.isEmpty];exact g2⟩
  ·obtain⟨_,vs,q1,q2⟩:=R.dict g1
   exact⟨_,.inr (.inr ⟨vs,q1,rfl⟩),by rw[q2.isEmpty];exact g2⟩
 ·exact g.elim
theorem Fy{i:Int}{d:D}(r:RDs w xs vs)(h:atI xs i=some d):∃v,atI vs i=some v∧RD w d v:=by
 unfold atI at *
 rw[r.length]
 obtain⟨j,h1,h2⟩:=Option.bind_eq_some_iff.mp h
 obtain⟨v,q1,q2⟩:=r.get h2
 exact⟨v,by rw[h1];exact q1,q2⟩
theorem Zc7{w:Vw}{xs:List D}{vs:List V}{lo hi:Option Int}(r:RDs w xs vs):RDs w (cutD xs lo hi) (cutV vs lo hi):=by
 unfold cutD cutV
 rw[r.length]
 exact(r.drop _).take _
section
variable{X:Cx}{w0:Vw}
theorem Za0(hu:X.A.units+1<cLine):IxR X (fun x y H Q=>∃a v,x= .ref a∧DGet H a y (some v)∧Q v H):=by
 intro value slice pins s σ H x y v u Q I rx ry h hs
 obtain⟨a,vv,rfl,g,q⟩:=h
 cases rx
 have hT:=E4 I g
 have h₂:wpAny (model X.prog X.w) X.A (getItem (.ref a) u) (EP X pins σ Q) X.xe s:=Za2 hu I g ry fun w' s3 I3 rw'=>⟨vv,H,I3,rw',q⟩
 unfold subscriptTail
 refine Aa ?_
 rw[getitemInPython_of_ne hT.not_modules]
 refine Aa (wpAny_specialOf hT PySem.F.slot_dict_getitem.lookup ?_)
 have fin:wpAny (model X.prog X.w) X.A (subscripted slice false (.ref a) u) (fun r s₃=>wpAny (model X.prog X.w) X.A (letTemporaryGo value (.ref a) r >>=fun _=>pure r) (EP X pins σ Q) X.xe s₃) X.xe s:=by
  rw[hs]
  exact wpAny_operating (Dv h₂ (fun r s₃ h₃=>Aa (wpAny_letTemporaryGo (Ag h₃))) fun _ _ x=>x)
 first
  | exact Ag (Aa fin)
  | exact Aa (Ag (Aa fin))
  | exact Aa fin
def rX(w0:Vw):R2:=fun x y H Q=>∃w M dx dy QD,w.H=H∧w.K=w0.K∧RS w M∧RD w dx x∧RD w dy y∧ixD M dx dy QD∧∀d v,QD d→RD w d v→Q v H
theorem Zh0(hK:X.K=w0.K)(hu:X.A.units+64<cLine):IxR X (rX w0):=by
 intro value slice pins s σ H x y v u Q I rx ry h hs
 obtain⟨w,M,dx,dy,QD,rfl,e0,R,hx,hy,g,a⟩:=h
 unfold ixD at g
 split at g
 ·obtain⟨_,rfl⟩:=Y1.mp hx
  rcases g with⟨xs,i,d,rfl,g1,g2,g3⟩ | ⟨kvs,k,d,g1,g2,g3,g4⟩ | ⟨kvs,ks,d,g1,rfl,g3,g4⟩
  ·cases Zj.mp hy
   obtain⟨_,vs,q1,q2,_⟩:=R.listL g1
   rw[e0,←hK] at q1
   obtain⟨vv,z1,z2⟩:=Fy q2 g2
   exact Zz7 value slice pins s σ w.H _ _ v u Q I rx ry ⟨_,vs,i,vv,rfl,rfl,q1,z1,a _ _ g3 z2⟩ hs
  ·obtain⟨vs,q1,q2⟩:=R.dictF g1
   cases Pg g2 hy
   rcases q2.val k with⟨n1,n2⟩ | ⟨d',v',n1,n2,n3⟩
   ·rw[n1] at g3;cases g3
   ·rw[n1] at g3;cases g3
    refine Za0 (by omega) value slice pins s σ w.H _ _ v u Q I rx ry ⟨_,v',rfl,?_,a _ _ g4 n3⟩ hs
    have:DGet w.H (w.μ _) (kV k) (valV vs k):= .inl ⟨vs,k,q1,rfl,rfl⟩
    rw[n2] at this
    exact this
  ·obtain⟨_,vs,q1,q2⟩:=R.dictP g1
   obtain⟨b,rfl,hb⟩:=Ft hy
   rcases q2.val ks with⟨n1,n2⟩ | ⟨d',v',n1,n2,n3⟩
   ·rw[n1] at g3;cases g3
   ·rw[n1] at g3;cases g3
    refine Za0 (by omega) value slice pins s σ w.H _ _ v u Q I rx ry ⟨_,v',rfl,?_,a _ _ g4 n3⟩ hs
    have:=DGet.t (k:=ks) q1 hb
    rw[n2] at this
    exact this
 ·cases Zj.mp hy
  obtain⟨p,vs,rfl,q1,q2⟩:=Xc.mp hx
  obtain⟨d,g1,g2⟩:=g
  obtain⟨vv,z1,z2⟩:=Fy q2 g1
  exact Zs3 value slice pins s σ w.H _ _ v u Q I rx ry ⟨_,vs,_,vv,rfl,rfl,.of q1,z1,a _ _ g2 z2⟩ hs
 ·cases Zj.mp hy
  obtain⟨p,vs,rfl,q1,q2⟩:=S6.mp hx
  rw[e0,←hK] at q1
  obtain⟨d,g1,g2⟩:=g
  obtain⟨vv,z1,z2⟩:=Fy q2 g1
  exact Zs3 value slice pins s σ w.H _ _ v u Q I rx ry ⟨_,vs,_,vv,rfl,rfl,q1,z1,a _ _ g2 z2⟩ hs
 ·cases Zj.mp hy;cases Yg.mp hx
  obtain⟨g0,c,g1,g2⟩:=g
  exact Y47 value slice pins s σ w.H _ _ v u Q I rx ry ⟨_,_,c,rfl,rfl,g0,g1,a _ _ g2 (Yg.mpr rfl)⟩ hs
 ·exact g.elim
theorem Y39:SlR X (fun x lo hi H Q=>∃z,x= .str z∧z.length≤sizeLine∧Q (.str (Txt.slice z lo hi)) H):=by
 intro pins s σ H x v vl vu lo hi sl Q I rx hs pl pu h
 obtain⟨z,rfl,hz,q⟩:=h
 obtain⟨t,rfl⟩:=rx
 have key:∀l u:Option (Int×Tok),l.map (·.1)=lo→u.map (·.1)=hi→vl=partValue l→vu=partValue u→wpAny (model X.prog X.w) X.A (getItem (.str z t) (.ref sl)) (EP X pins σ Q) X.xe s:=by
  intro l u e1 e2 e3 e4
  subst e1 e2 e3 e4
  refine wpAny_getItem_str_slice (l:=l) (u:=u) (st:=none) hs rfl ?_
  exact post_val_or_str ⟨Nat.le_trans (Txt.slice_le z _ _) hz,fun t' k=>⟨.str (Txt.slice z _ _),H,I.tok _,⟨_,rfl⟩,q⟩⟩
 refine⟨"str",_,PySem.F.slot_str_getitem.lookup,typeIs_str _ _ _,?_⟩
 cases pl with
 | none=>
  cases pu with
  | none=>exact key none none rfl rfl rfl rfl
  | int j tj=>exact key none (some (j,tj)) rfl rfl rfl rfl
 | int i ti=>
  cases pu with
  | none=>exact key (some (i,ti)) none rfl rfl rfl rfl
  | int j tj=>exact key (some (i,ti)) (some (j,tj)) rfl rfl rfl rfl
def rSl(w0:Vw):V→Option Int→Option Int→Hp→VK→Prop:=fun x lo hi H Q=>∃w M dx QD,w.H=H∧w.K=w0.K∧RS w M∧RD w dx x∧slD dx lo hi M QD∧Aft w QD Q
theorem Zg1(hK:X.K=w0.K):SlR X (rSl w0):=by
 intro pins s σ H x v vl vu lo hi sl Q I rx hs pl pu h
 obtain⟨w,M,dx,QD,rfl,e0,R,hx,g,a⟩:=h
 unfold slD at g
 split at g
 ·cases Yg.mp hx
  exact Y39 pins s σ w.H _ v vl vu _ _ sl Q I rx hs pl pu ⟨_,rfl,g.1,a _ w _ M (Ext.refl w) R (Yg.mpr rfl) g.2⟩
 ·obtain⟨_,rfl⟩:=Y1.mp hx
  obtain⟨xs,g1,g2⟩:=g
  obtain⟨_,vs,q1,q2,_⟩:=R.listL g1
  rw[e0,←hK] at q1
  refine Zx6 pins s σ w.H _ v vl vu _ _ sl Q I rx hs pl pu ⟨_,vs,rfl,q1,fun p hp=>?_⟩
  obtain⟨x1,x2,x3⟩:=T9 R hp (Zc7 (lo:=lo) (hi:=hi) q2)
  exact a _ _ _ _ x1 x2 x3 g2
 ·obtain⟨p,vs,rfl,q1,q2⟩:=Xc.mp hx
  refine Yb5 pins s σ w.H _ v vl vu _ _ sl Q I rx hs pl pu ⟨_,vs,rfl,.of q1,by rw[q2.length];exact g.1,fun p hp=>?_⟩
  obtain⟨x1,x2,x3⟩:=Sy R hp (Zc7 (lo:=lo) (hi:=hi) q2)
  exact a _ _ _ _ x1 x2 x3 g.2
 ·exact g.elim
def rC(w0:Vw)(g:List D→Z3→DK→Prop):List V→Hp→VK→Prop:=fun xs H Q=>∃w M ds QD,w.H=H∧w.K=w0.K∧RS w M∧RDs w ds xs∧g ds M QD∧Aft w QD Q
noncomputable def bfOf:Bf→Str×Value
 | .len=>("len",.builtin "len") | .isinst=>("isinstance",.builtin "isinstance") | .min2=>("min",.builtin "min")
 | .dict1=>("dict",.type "dict") | .int1=>("int",.type "int")
theorem rds1{d:D}(h:RDs w [d] xs):∃v,xs=[v]∧RD w d v:=by
 unfold RDs at h
 obtain⟨v,r,rfl,h1,h2⟩:=h
 unfold RDs at h2
 subst h2
 exact⟨v,rfl,h1⟩
theorem rds2{d e:D}(h:RDs w [d,e] xs):∃v u,xs=[v,u]∧RD w d v∧RD w e u:=by
 unfold RDs at h
 obtain⟨v,r,rfl,h1,h2⟩:=h
 obtain⟨u,rfl,h3⟩:=rds1 h2
 exact⟨v,u,rfl,h1,h3⟩
theorem rds0(h:RDs w [] xs):xs=[]:=by unfold RDs at h;exact h
theorem Zd0:∀{as:List Addr} {vs:List V},RDs w (as.map D.cls) vs→vs=as.map V.ref
 | [],vs,h=>rds0 h
 | a::r,vs,h=>by
  rw[Dd] at h
  unfold RDs at h
  obtain⟨v,vs',rfl,h1,h2⟩:=h
  rw[Ov.mp h1,Zd0 h2]
  rfl
def Yg1(K:Ab):List V→Hp→VK→Prop:=fun xs H Q=>∃(e C dx:Addr) (fs:List (Str×V)) (p:Addr) (as:List Addr) (b:Bool),xs=[.ref e,.ref p]∧H e=some (XO e (.ref C) (some dx))∧H dx=some (.xd fs)∧ExcIs K C∧H p=some (.tup (as.map V.ref))∧PySem.W.kitAny K (.ref C) (as.map Value.ref)=some b∧Q (.bl b) H
theorem Gz:∀{as:List Addr} {us:List Value},Vals (as.map V.ref) us→us=as.map Value.ref
 | [],us,h=>by cases h;rfl
 | a::r,us,h=>by
  cases h with
  | cons h1 h2=>
   obtain rfl:_=Value.ref a:=h1
   rw[Gz h2]
   rfl
theorem Z96:Tw X (.builtin "isinstance") (Yg1 X.K):=by
 intro pins s σ H xs us Q I r h
 obtain⟨e,C,dx,fs,p,as,b,rfl,he,hd,S,hp,k,q⟩:=h
 obtain⟨u,v,rfl,ru,rv⟩:=Ni r
 obtain rfl:u=Value.ref e:=ru
 obtain rfl:v=Value.ref p:=rv
 obtain⟨oe,od,mA,J,_⟩:=Bd I he hd
 obtain⟨its,r',⟨⟨oc,odd,dat,sl⟩,g1,g2,n,g3⟩,hz⟩:=I.tuple (.of hp)
 cases Gz r'
 dsimp only at g2 g3
 subst g2 g3
 exact PySem.W.kia_tup (C3 S) I.kIn J g1 k (fun z=>nomatch z) fun tk=>⟨.bl b,H,I.tok tk,rfl,q⟩
theorem Y43{K:Ab}{d:D}{x:V}{t:String}(R:RS w M)(r:RD w d x)(h:tyD M d=some t):TyOf K w.H x (.type t):=by
 unfold tyD at h
 split at h
 ·cases h;cases Xv.mp r;exact .non
 ·cases h;cases Ww.mp r;exact .bl _
 ·cases h;cases Zj.mp r;exact .int _
 ·cases h;cases Yg.mp r;exact .str _
 ·cases h;obtain⟨a,vs,rfl,q,_⟩:=Xc.mp r;exact .tup q
 ·obtain⟨_,rfl⟩:=Y1.mp r
  split at h
  ·rename_i e;cases h;obtain⟨vs,q,_⟩:=R.cell _ _ e;exact .lst q
  ·cases h
  ·rename_i e;cases h;obtain⟨vs,q,_⟩:=R.cell _ _ e;exact .dK q
  ·cases h
  ·cases h
  ·cases h
 ·cases h
theorem Z37:Tw X (.type "dict") (fun xs H Q=>∃a kvs,xs=[V.ref a]∧H a=some (.dK kvs)∧∀p,H p=none→Q (.ref p) (upd H p (.dK kvs))):=by
 intro pins s σ H xs us Q I r h
 obtain⟨a,kvs,rfl,e,q⟩:=h
 obtain⟨u,rfl,ru⟩:=Jc r
 cases ru
 exact Zn2 I (.inl e) fun p s' hp I'=>⟨.ref p,_,I',rfl,q p hp⟩
theorem Bb:∀{ps:List (Key×D)} {vs:List V},RDs w (Tq ps) vs→∃qs,Fg w.K w.H vs qs∧RKV w ps qs
 | [],vs,h=>by
  cases vs with
  | nil=>exact⟨[],trivial,by unfold RKV;rfl⟩
  | cons _ _=>have:=h.length;simp[Tq] at this
 | p::ps,vs,h=>by
  change RDs w (D.tup [kD p.1,p.2]::Tq ps) vs at h
  unfold RDs at h
  obtain⟨v,vr,rfl,r1,r2⟩:=h
  obtain⟨t,us,rfl,q1,q2⟩:=Xc.mp r1
  obtain⟨u1,u2,rfl,s1,s2⟩:=rds2 q2
  obtain⟨qs,h1,h2⟩:=Bb r2
  have e:u1=kV p.1:=by
   cases hk:p.1 with
   | inl i=>rw[hk] at s1;exact Zj.mp s1
   | inr x=>rw[hk] at s1;exact Yg.mp s1
  subst e
  exact⟨(p.1,u2)::qs,⟨⟨t,rfl,.of q1⟩,h1⟩,by unfold RKV;exact⟨u2,qs,rfl,s2,h2⟩⟩
theorem Cn:∀{ps:List (Key×D)} {qs:List (Key×V)} {ds:List (Key×D)} {vs:List (Key×V)},RKV w ps qs→RKV w ds vs→RKV w (ps.foldl (fun m p=>putD m p.1 p.2) ds) (qs.foldl (fun m p=>putK m p.1 p.2) vs)
 | [],qs,ds,vs,h,g=>by unfold RKV at h;subst h;exact g
 | p::ps,qs,ds,vs,h,g=>by
  unfold RKV at h
  obtain⟨v,r,rfl,h1,h2⟩:=h
  rw[Lc,Lc]
  exact Cn (ps:=ps) (qs:=r) h2 (RKV.put (k:=p.1) h1 g)
noncomputable def Pe:Bf→Bool
 | .min2 | .dict1=>false
 | _=>true
theorem Zc0:Tw X (.type "int") (fun xs H Q=>∃b,xs=[.bl b]∧Q (.int (if b then 1 else 0)) H):=by
 intro pins s σ H xs us Q I r h
 obtain⟨b,rfl,q⟩:=h
 obtain⟨u,rfl,e⟩:=Jc r
 cases e
 exact call_int_bool ⟨.int _,H,I.tok _,⟨_,rfl⟩,q⟩
theorem Zk6(hK:X.K=w0.K)(b:Bf)(hc:X.calm=true∨Pe b=true):Tw X (bfOf b).2 (rC w0 (bfD w0.K b)):=by
 intro pins s σ H xs us Q I r h
 obtain⟨w,M,ds,QD,rfl,e0,R,hx,g,a⟩:=h
 cases b with
 | len=>
  obtain⟨x,rfl,g2⟩:=Sr g;clear g;have g:=g2
  cases x with
  | ref n=>
   obtain⟨v,rfl,r1⟩:=rds1 hx
   obtain⟨_,rfl⟩:=Y1.mp r1
   rcases g with⟨xs,g1,g2⟩ | ⟨xs,g1,g2⟩
   ·obtain⟨_,vs,q1,q2,_⟩:=R.listL g1
    rw[e0,←hK] at q1
    exact Rg pins s σ w.H _ us Q I r ⟨_,vs,rfl,.inl q1,a _ w _ M (Ext.refl w) R (Zj.mpr (by rw[q2.length])) g2⟩
   ·obtain⟨_,vs,q1,q2⟩:=R.dict g1
    exact Za3 pins s σ w.H _ us Q I r ⟨_,vs,rfl,q1,a _ w _ M (Ext.refl w) R (Zj.mpr (by rw[q2.length])) g2⟩
  | tup l=>
   obtain⟨v,rfl,r1⟩:=rds1 hx
   obtain⟨p,vs,rfl,q1,q2⟩:=Xc.mp r1
   exact Rg pins s σ w.H _ us Q I r ⟨_,vs,rfl,.inr (.of q1),a _ w _ M (Ext.refl w) R (Zj.mpr (by rw[q2.length])) g⟩
  | str z=>
   obtain⟨v,rfl,r1⟩:=rds1 hx
   cases Yg.mp r1
   exact G1 pins s σ w.H _ us Q I r ⟨_,rfl,g.1,a _ w _ M (Ext.refl w) R (Zj.mpr rfl) g.2⟩
  | _=>exact De g
 | isinst=>
  obtain⟨x,y,rfl,g2⟩:=Qx g;clear g;have g:=g2
  obtain⟨v,u,rfl,r1,r2⟩:=rds2 hx
  unfold isD at g
  split at g
  ·obtain⟨b,g1,g2,g3⟩:=g
   obtain⟨rfl,q1,row,q2,q3⟩:=Zf1.mp r1
   cases Ov.mp r2
   rw[←hK] at g1 g2
   exact C9 pins s σ w.H _ us Q I r ⟨_,_,_,_,_,_,b,rfl,q1,q2,g1,fun u hu=>hu,g2,a _ w _ M (Ext.refl w) R (Ww.mpr rfl) g3⟩
  ·obtain⟨b,g1,g2,g3⟩:=g
   obtain⟨rfl,q1,row,q2,q3⟩:=Zf1.mp r1
   cases Zy5.mp r2
   rw[←hK] at g1 g2
   exact C9 pins s σ w.H _ us Q I r ⟨_,_,_,_,_,_,b,rfl,q1,q2,g1,fun u hu=>hu,g2,a _ w _ M (Ext.refl w) R (Ww.mpr rfl) g3⟩
  ·obtain⟨as,b,rfl,g1,g2,g3⟩:=g
   obtain⟨rfl,q1,row,q2,q3⟩:=Zf1.mp r1
   obtain⟨p,vs,rfl,q4,q5⟩:=Xc.mp r2
   cases Zd0 q5
   rw[←hK] at g1 g2
   exact Z96 pins s σ w.H _ us Q I r ⟨_,_,_,_,_,_,b,rfl,q1,q2,g1,q4,g2,a _ w _ M (Ext.refl w) R (Ww.mpr rfl) g3⟩
  ·obtain⟨t,b,g1,g2,g3⟩:=g
   cases Zy5.mp r2
   rw[←hK] at g2
   exact Zl9 pins s σ w.H _ us Q I r ⟨_,_,_,b,rfl,Y43 R r1 g1,g2,a _ w _ M (Ext.refl w) R (Ww.mpr rfl) g3⟩
  ·exact g.elim
 | min2=>
  obtain⟨x,y,rfl,g2⟩:=Qx g;clear g;have g:=g2
  obtain⟨i,j,rfl,rfl,g2⟩:=Xn g;clear g;have g:=g2
  obtain⟨v,u,rfl,r1,r2⟩:=rds2 hx
  cases Zj.mp r1;cases Zj.mp r2
  exact Za9 (hc.resolve_right (by simp[Pe])) pins s σ w.H _ us Q I r ⟨_,_,rfl,a _ w _ M (Ext.refl w) R (Zj.mpr rfl) g⟩
 | dict1=>
  obtain⟨x,rfl,g2⟩:=Sr g;clear g;have g:=g2
  obtain⟨n,rfl,g2⟩:=W8 g;clear g;have g:=g2
  obtain⟨v,rfl,r1⟩:=rds1 hx
  obtain⟨_,rfl⟩:=Y1.mp r1
  rcases g with⟨xs,g1,g2⟩ | ⟨ps,g1,g2,g3⟩
  ·obtain⟨_,vs,q1,q2⟩:=R.dict g1
   refine Z37 pins s σ w.H _ us Q I r ⟨_,vs,rfl,q1,fun l hl=>?_⟩
   obtain⟨x1,x2,x3⟩:=Q8 R hl q2
   exact a _ _ _ _ x1 x2 x3 g2
  ·obtain⟨_,vs,q1,q2,_⟩:=R.listL g1
   obtain⟨qs,z1,z2⟩:=Bb q2
   have hl2:=q2.length
   unfold Tq at hl2
   rw[Ah] at hl2
   rw[e0,←hK] at q1 z1
   refine Br (hc.resolve_right (by simp[Pe])) pins s σ w.H _ us Q I r ⟨_,vs,qs,rfl,q1,z1,by omega,fun l hl=>?_⟩
   obtain⟨x1,x2,x3⟩:=Q8 R hl (Cn z2 (show RKV w [] [] by unfold RKV;rfl))
   exact a _ _ _ _ x1 x2 x3 g3
 | int1=>
  obtain⟨x,rfl,g2⟩:=Sr g;clear g;have g:=g2
  obtain⟨i,rfl,g2⟩:=Zm8 g;clear g;have g:=g2
  obtain⟨v,rfl,r1⟩:=rds1 hx
  cases Ww.mp r1
  exact Zc0 pins s σ w.H _ us Q I r ⟨_,rfl,a _ w _ M (Ext.refl w) R (Zj.mpr rfl) g⟩
end
noncomputable def mtT:Mt→String
 | .append | .pop0 | .extend=>"list"
 | .get2 | .setd=>"dict"
noncomputable def mtN:Mt→Str
 | .append=>"append" | .pop0=>"pop" | .extend=>"extend" | .get2=>"get" | .setd=>"setdefault"
noncomputable def mtI:Mt→String
 | .append=>"list.append" | .pop0=>"list.pop" | .extend=>"list.extend" | .get2=>"dict.get" | .setd=>"dict.setdefault"
theorem Ya8:∀m:Mt,PlainAttrs (mtT m)
 | .append | .pop0 | .extend=>PySem.F.plainAttrs_list
 | .get2 | .setd=>PySem.F.plainAttrs_dict
theorem Ze5:∀m:Mt,Slot (mtT m) (mtN m) (mtI m)
 | .append=>PySem.F.slot_list_append | .pop0=>PySem.F.slot_list_pop | .extend=>PySem.F.slot_list_extend
 | .get2=>PySem.F.slot_dict_get
 | .setd=>PySem.F.slot_dict_setdefault
theorem Ya9:∀m:Mt,typeOf (.builtin (mtI m))=pure (.type "method_descriptor")
 | .append=>PySem.F.type_list_append | .pop0=>PySem.F.type_list_pop | .extend=>PySem.F.type_list_extend
 | .get2=>PySem.F.type_dict_get
 | .setd=>PySem.F.type_dict_setdefault
def rM(w0:Vw)(m:Mt):V→List V→Hp→VK→Prop:=fun x xs H Q=>∃w M dx ds QD,w.H=H∧w.K=w0.K∧RS w M∧RD w dx x∧RDs w ds xs∧mtD m dx ds M QD∧Aft w QD Q
theorem Zr7{d:D}{x:V}(R:RS w M)(r:RD w d x)(h:mtK m d M):tyV w.K (mtT m) x w.H:=by
 have L:∀{n:Nat},RD w (.ref n) x→(Zo M n).isSome=true→tyV w.K "list" x w.H:=by
  intro n r h
  obtain⟨_,rfl⟩:=Y1.mp r
  obtain⟨xs,e⟩:=Hx.mp h
  obtain⟨_,vs,q1,_⟩:=R.listL e
  exact .inl ⟨rfl,vs,q1⟩
 have K:∀{n:Nat},RD w (.ref n) x→(Zq M n).isSome=true→tyV w.K "dict" x w.H:=by
  intro n r h
  obtain⟨_,rfl⟩:=Y1.mp r
  obtain⟨xs,e⟩:=Hx.mp h
  obtain⟨_,vs,q1,_⟩:=R.dict e
  exact .inr (.inr (.inl ⟨rfl,.inl ⟨vs,q1⟩⟩))
 have P:∀{n:Nat},RD w (.ref n) x→(Xq M n).isSome=true→tyV w.K "dict" x w.H:=by
  intro n r h
  obtain⟨_,rfl⟩:=Y1.mp r
  obtain⟨xs,e⟩:=Hx.mp h
  obtain⟨_,vs,q1,_⟩:=R.dictP e
  exact .inr (.inr (.inl ⟨rfl,.inr ⟨vs,q1⟩⟩))
 obtain⟨n,rfl,h⟩:=W8 h
 cases m with
 | get2=>exact K r h
 | setd=>exact P r h
 | _=>exact L r h
theorem RDs.dropLast(r:RDs w xs vs):RDs w xs.dropLast vs.dropLast:=by
 rw[List.dropLast_eq_take,List.dropLast_eq_take,r.length]
 exact r.take _
section
variable{X:Cx}{w0:Vw}
theorem Zi7(hK:X.K=w0.K)(hu:X.A.units+64<cLine)(m:Mt):MtR X (mtI m) (rM w0 m):=by
 intro pins s σ H x xs v us Q I rx r h
 obtain⟨w,M,dx,ds,QD,rfl,e0,R,hx,hs,g,a⟩:=h
 obtain⟨n,rfl,g2⟩:=W8 g;clear g;have g:=g2
 cases m with
 | append=>
  obtain⟨x,rfl,g2⟩:=Sr g;clear g;have g:=g2
  obtain⟨_,rfl⟩:=Y1.mp hx
  obtain⟨y,rfl,ry⟩:=rds1 hs
  obtain⟨ds,g1,g2,g3⟩:=g
  obtain⟨hn,vs,q1,q2⟩:=R.list g1
  obtain⟨x1,x2⟩:=Wt R hn q1 (q2.append (RDs.cons ry (RDs.nil w)))
  exact Qr pins s σ w.H _ _ v us Q I rx r ⟨_,vs,y,rfl,rfl,q1,by rw[q2.length];exact g2,a _ _ _ _ x1 x2 (Xv.mpr rfl) g3⟩
 | setd=>
  obtain⟨x,y,rfl,g2⟩:=Qx g;clear g;have g:=g2
  obtain⟨_,rfl⟩:=Y1.mp hx
  obtain⟨y,z,rfl,ry,rz⟩:=rds2 hs
  obtain⟨kvs,k,g1,rfl,g0,g2,g3⟩:=g
  obtain⟨hn,vs,q1,q2⟩:=R.dictP g1
  obtain⟨u,u2,rfl,ru,ru2⟩:=Ni r
  cases (show v=Value.ref _ from rx)
  obtain⟨b,rfl,hb⟩:=Ft ry
  cases (show u=Value.ref _ from ru)
  refine Zm1 (by omega) I q1 hb (by rw[q2.length];exact g0) ru2 (fun v w' s' hv I' rw'=>⟨_,w.H,I',rw',?_⟩) fun s' hv I'=>⟨_,_,I',ru2,?_⟩
  ·rcases q2.val k with⟨n1,n2⟩ | ⟨d',v',n1,n2,n3⟩
   ·rw[hv] at n2;cases n2
   ·rw[hv] at n2;cases n2
    exact a _ w _ M (Ext.refl w) R n3 (g2 _ n1)
  ·rcases q2.val k with⟨n1,n2⟩ | ⟨d',v',n1,n2,n3⟩
   ·obtain⟨t1,t2⟩:=Qy R hn q1 (q2.put (k:=k) rz)
    exact a _ _ _ _ t1 t2 (rz.ext t1) (g3 n1)
   ·rw[hv] at n2;cases n2
 | get2=>
  obtain⟨x,y,rfl,g2⟩:=Qx g;clear g;have g:=g2
  obtain⟨_,rfl⟩:=Y1.mp hx
  obtain⟨y,z,rfl,ry,rz⟩:=rds2 hs
  obtain⟨kvs,k,g1,g2,g3⟩:=g
  obtain⟨hn,vs,q1,q2⟩:=R.dict g1
  obtain⟨u,u2,rfl,ru,ru2⟩:=Ni r
  cases (show v=Value.ref _ from rx)
  cases Pg g2 ry
  refine Y98 (by omega) I (DGet.k (k:=k) q1) ru ru2 fun w' s' I' rw'=>⟨_,w.H,I',rw',?_⟩
  rcases q2.val k with⟨n1,n2⟩ | ⟨d',v',n1,n2,n3⟩
  ·rw[n1] at g3
   rw[n2]
   exact a _ w _ M (Ext.refl w) R rz g3
  ·rw[n1] at g3
   rw[n2]
   exact a _ w _ M (Ext.refl w) R n3 g3
 | pop0=>
  obtain⟨rfl,g2⟩:=Zd2 g;clear g;have g:=g2
  obtain⟨_,rfl⟩:=Y1.mp hx
  cases rds0 hs
  obtain⟨ds,d,g1,g2,g3⟩:=g
  obtain⟨hn,vs,q1,q2⟩:=R.list g1
  obtain⟨y,z1,z2⟩:=q2.get g2
  obtain⟨x1,x2⟩:=Wt R hn q1 q2.dropLast
  exact Yd0 pins s σ w.H _ _ v us Q I rx r ⟨_,vs,y,rfl,rfl,q1,by rw[q2.length];exact z1,a _ _ _ _ x1 x2 (z2.ext x1) g3⟩
 | extend=>
  obtain⟨x,rfl,g2⟩:=Sr g;clear g;have g:=g2
  obtain⟨m2,rfl,g2⟩:=W8 g;clear g;have g:=g2
  obtain⟨_,rfl⟩:=Y1.mp hx
  obtain⟨y,rfl,ry⟩:=rds1 hs
  obtain⟨_,rfl⟩:=Y1.mp ry
  obtain⟨ds,es,g1,g2,g4,g3⟩:=g
  obtain⟨hn,vs,q1,q2⟩:=R.list g1
  obtain⟨hn',vs',q1',q2'⟩:=R.list g2
  obtain⟨x1,x2⟩:=Wt R hn q1 (q2.append q2')
  exact Z69 pins s σ w.H _ _ v us Q I rx r ⟨_,_,vs,vs',rfl,rfl,q1,q1',by rw[q2.length,q2'.length];exact g4,a _ _ _ _ x1 x2 (Xv.mpr rfl) g3⟩
end
noncomputable def gF(w0:Vw)(tg:List Nat):TG:=fun v σ H Q=>∃w σD M d QD,StOk w0 w σD M σ H∧RD w d v∧tgD tg d σD QD∧∀σ' σD',REnv w σD' σ'→QD σD'→Q σ' H
noncomputable def gAll:List Nat→TGs
 | []=>gNil
 | i::is=>Yc9 (Zb2 i) (gAll is)
theorem Bc{w:Vw}{H:Hp}{Q:L2.St→Hp→Prop}{QD:DEnv→Prop}(k:∀σ' σD',REnv w σD' σ'→QD σD'→Q σ' H):∀(is:List Nat) {ds:List D} {vs:List V} {σ:L2.St} {σD:DEnv},RDs w ds vs→ds.length=is.length→REnv w σD σ→
  QD ((is.zip ds).foldl (fun σ p=>σ.set p.1 (some p.2)) σD)→gAll is vs σ H Q
 | [],ds,vs,σ,σD,r,hl,e,q=>by
  cases Ie.mp hl
  cases rds0 r
  exact⟨rfl,k _ _ e q⟩
 | i::is,ds,vs,σ,σD,r,hl,e,q=>by
  cases ds with
  | nil=>simp at hl
  | cons d ds=>
   unfold RDs at r
   obtain⟨v,vr,rfl,h1,h2⟩:=r
   refine⟨v,vr,rfl,?_⟩
   show gAll is vr (σ.set i (some v)) H Q
   exact Bc k is h2 (by simpa using hl) (e.set i h1) q
section
variable{X:Cx}{w0:Vw}
theorem PG.imp{t t':TG}(h:PG X e t)(k:∀v σ H Q,t' v σ H Q→t v σ H Q):PG X e t':=fun pins s σ H v u Q I r q=>h pins s σ H v u Q I r (k v σ H Q q)
theorem Y97{i:Nat}(h:PG X e (Zb2 i)):PG X e (gF w0 [i]):=PG.imp h fun v σ H Q zz71=>by obtain⟨w,σD,M,d,QD,S,r,g,k⟩:=zz71;exact k _ _ (S.env.set i r) g
theorem Y05{is:List Nat}(hl:2≤is.length)(h:PG X e (gTup X.K is.length (gAll is))):PG X e (gF w0 is):=PG.imp h fun v σ H Q ⟨w,σD,M,d,QD,S,r,g,k⟩=>by
 unfold tgD at g
 split at g
 ·simp at hl
 ·obtain⟨a,vs,rfl,q1,q2⟩:=Xc.mp r
  obtain⟨g1,g2⟩:=g
  rw[S.heap] at q1
  exact⟨a,vs,rfl,.of q1,by rw[q2.length];exact g1,Bc k is q2 g1 S.env g2⟩
 ·exact g.elim
end
structure Ck where
 N:List Str
 sc:Scope
 FN:List Str
 GN:List Str
 BN:List Str
 loops:Bool
 calm:Bool
 tries:Bool
 raises:List Nat
 cells:Bool
 own:List Str
noncomputable def Fo(scope:Scope):List Str:=(scope.names.filter fun y=>y.2== .cell).map (·.1)
noncomputable def Ck.vis(k:Ck)(x:Str):Bool:=(k.sc.names.lookup x==some .local || k.sc.names.lookup x==some .cell || k.sc.names.lookup x==some .free)&&!(x==("__debug__":Str))&&!(x==("__classdict__":Str))
noncomputable def Ck.glob(k:Ck)(x:Str):Bool:=k.sc.names.lookup x==some .globalImplicit&&!(x==("__debug__":Str))&&!(x==("__name__":Str))
noncomputable def Ck.loc(k:Ck)(x:Str):Bool:=k.sc.names.lookup x==some .local
noncomputable def Ck.locC(k:Ck)(x:Str):Bool:=k.loc x || ((k.cells || k.own.contains x)&&k.sc.names.lookup x==some .cell)
noncomputable def Z91:Expr→Bool
 | .Call (.Name x _) [] [] _=>x !=("super":Str)
 | _=>true
noncomputable def Fw:Expr→Bool
 | .Slice ..=>false
 | _=>true
noncomputable def Z12:Expr→Bool
 | .Set ..=>false
 | _=>true
noncomputable def noStar:Expr→Bool
 | .Starred ..=>false
 | _=>true
noncomputable def isIn:Cm→Bool
 | .isin | .notin=>true
 | _=>false
noncomputable def Zw9(k:Ck):List Nat→List Expr→Bool
 | [],[]=>true
 | i::is,.Name x _::es=>k.N[i]?==some x&&k.locC x&&Zw9 k is es
 | _,_=>false
noncomputable def O3(k:Ck)(is:List Nat):Expr→Bool
 | .Name x _=>match is with
  | [i]=>k.N[i]?==some x&&k.locC x
  | _=>false
 | .Tuple es _ _=>k.calm&&decide (2≤is.length)&&Zw9 k is es
 | _=>false
noncomputable def itTg:It→Expr→Bool
 | .enm _,.Tuple ..=>true
 | .enm _,_=>false
 | .zip _,.Tuple ..=>true
 | .zip _,_=>false
 | _,_=>true
theorem Yw{c:Prop}[Decidable c]{F:c→Bool}(h:(if q:c then F q else false)=true):∃q:c,F q=true:=by
 by_cases q:c
 ·rw[dif_pos q] at h;exact⟨q,h⟩
 ·rw[dif_neg q] at h;exact absurd h Bool.false_ne_true
noncomputable def Vu(zz:Expr)(F:Str→Bool):Bool:=if q:zz.ctorIdx=23 then Expr.Name.elim (motive_1:=fun _=>Bool) zz q (fun x _=>F x) else false
theorem Yy{zz:Expr}{F:Str→Bool}(h:Vu zz F=true):∃x p,zz= .Name x p∧F x=true:=by
 obtain⟨q,h⟩:=Yw h
 exact Expr.Name.elim (motive_1:=fun zz=>∀q:zz.ctorIdx=23,Expr.Name.elim (motive_1:=fun _=>Bool) zz q (fun x _=>F x)=true→∃x p,zz= .Name x p∧F x=true) zz q (fun x p _ h=>⟨x,p,rfl,h⟩) q h
noncomputable def Qb(zz:Expr)(F:Const→Bool):Bool:=if q:zz.ctorIdx=19 then Expr.Constant.elim (motive_1:=fun _=>Bool) zz q (fun v _ _=>F v) else false
theorem V7{zz:Expr}{F:Const→Bool}(h:Qb zz F=true):∃v j p,zz= .Constant v j p∧F v=true:=by
 obtain⟨q,h⟩:=Yw h
 exact Expr.Constant.elim (motive_1:=fun zz=>∀q:zz.ctorIdx=19,Expr.Constant.elim (motive_1:=fun _=>Bool) zz q (fun v _ _=>F v)=true→∃v j p,zz= .Constant v j p∧F v=true) zz q (fun v j p _ h=>⟨v,j,p,rfl,h⟩) q h
noncomputable def Yc8(zz:Expr)(F:Expr→Operator→Expr→Bool):Bool:=if q:zz.ctorIdx=2 then Expr.BinOp.elim (motive_1:=fun _=>Bool) zz q (fun l o r _=>F l o r) else false
theorem Z85{zz:Expr}{F:Expr→Operator→Expr→Bool}(h:Yc8 zz F=true):∃l o r p,zz= .BinOp l o r p∧F l o r=true:=by
 obtain⟨q,h⟩:=Yw h
 exact Expr.BinOp.elim (motive_1:=fun zz=>∀q:zz.ctorIdx=2,Expr.BinOp.elim (motive_1:=fun _=>Bool) zz q (fun l o r _=>F l o r)=true→∃l o r p,zz= .BinOp l o r p∧F l o r=true) zz q (fun l o r p _ h=>⟨l,o,r,p,rfl,h⟩) q h
noncomputable def onUn(zz:Expr)(F:UnaryOp→Expr→Bool):Bool:=if q:zz.ctorIdx=3 then Expr.UnaryOp.elim (motive_1:=fun _=>Bool) zz q (fun o l _=>F o l) else false
theorem Cj{zz:Expr}{F:UnaryOp→Expr→Bool}(h:onUn zz F=true):∃o l p,zz= .UnaryOp o l p∧F o l=true:=by
 obtain⟨q,h⟩:=Yw h
 exact Expr.UnaryOp.elim (motive_1:=fun zz=>∀q:zz.ctorIdx=3,Expr.UnaryOp.elim (motive_1:=fun _=>Bool) zz q (fun o l _=>F o l)=true→∃o l p,zz= .UnaryOp o l p∧F o l=true) zz q (fun o l p _ h=>⟨o,l,p,rfl,h⟩) q h
noncomputable def Y36(zz:Expr)(F:Expr→(List CmpOp)→(List Expr)→Bool):Bool:=if q:zz.ctorIdx=15 then Expr.Compare.elim (motive_1:=fun _=>Bool) zz q (fun l os rs _=>F l os rs) else false
theorem Zc8{zz:Expr}{F:Expr→(List CmpOp)→(List Expr)→Bool}(h:Y36 zz F=true):∃l os rs p,zz= .Compare l os rs p∧F l os rs=true:=by
 obtain⟨q,h⟩:=Yw h
 exact Expr.Compare.elim (motive_1:=fun zz=>∀q:zz.ctorIdx=15,Expr.Compare.elim (motive_1:=fun _=>Bool) zz q (fun l os rs _=>F l os rs)=true→∃l os rs p,zz= .Compare l os rs p∧F l os rs=true) zz q (fun l os rs p _ h=>⟨l,os,rs,p,rfl,h⟩) q h
noncomputable def Zq5(zz:Expr)(F:BoolOp→(List Expr)→Bool):Bool:=if q:zz.ctorIdx=0 then Expr.BoolOp.elim (motive_1:=fun _=>Bool) zz q (fun o ls _=>F o ls) else false
theorem Z24{zz:Expr}{F:BoolOp→(List Expr)→Bool}(h:Zq5 zz F=true):∃o ls p,zz= .BoolOp o ls p∧F o ls=true:=by
 obtain⟨q,h⟩:=Yw h
 exact Expr.BoolOp.elim (motive_1:=fun zz=>∀q:zz.ctorIdx=0,Expr.BoolOp.elim (motive_1:=fun _=>Bool) zz q (fun o ls _=>F o ls)=true→∃o ls p,zz= .BoolOp o ls p∧F o ls=true) zz q (fun o ls p _ h=>⟨o,ls,p,rfl,h⟩) q h
noncomputable def onIf(zz:Expr)(F:Expr→Expr→Expr→Bool):Bool:=if q:zz.ctorIdx=5 then Expr.IfExp.elim (motive_1:=fun _=>Bool) zz q (fun x l r _=>F x l r) else false
theorem Zj9{zz:Expr}{F:Expr→Expr→Expr→Bool}(h:onIf zz F=true):∃x l r p,zz= .IfExp x l r p∧F x l r=true:=by
 obtain⟨q,h⟩:=Yw h
 exact Expr.IfExp.elim (motive_1:=fun zz=>∀q:zz.ctorIdx=5,Expr.IfExp.elim (motive_1:=fun _=>Bool) zz q (fun x l r _=>F x l r)=true→∃x l r p,zz= .IfExp x l r p∧F x l r=true) zz q (fun x l r p _ h=>⟨x,l,r,p,rfl,h⟩) q h
noncomputable def Y93(zz:Expr)(F:(List Expr)→Bool):Bool:=if q:zz.ctorIdx=24 then Expr.List.elim (motive_1:=fun _=>Bool) zz q (fun ls _=>F ls) else false
theorem Z67{zz:Expr}{F:(List Expr)→Bool}(h:Y93 zz F=true):∃ls p,zz= .List ls p∧F ls=true:=by
 obtain⟨q,h⟩:=Yw h
 exact Expr.List.elim (motive_1:=fun zz=>∀q:zz.ctorIdx=24,Expr.List.elim (motive_1:=fun _=>Bool) zz q (fun ls _=>F ls)=true→∃ls p,zz= .List ls p∧F ls=true) zz q (fun ls p _ h=>⟨ls,p,rfl,h⟩) q h
noncomputable def Zz0(zz:Expr)(F:(List Expr)→Bool):Bool:=if q:zz.ctorIdx=25 then Expr.Tuple.elim (motive_1:=fun _=>Bool) zz q (fun ls _ _=>F ls) else false
theorem Jr{zz:Expr}{F:(List Expr)→Bool}(h:Zz0 zz F=true):∃ls j p,zz= .Tuple ls j p∧F ls=true:=by
 obtain⟨q,h⟩:=Yw h
 exact Expr.Tuple.elim (motive_1:=fun zz=>∀q:zz.ctorIdx=25,Expr.Tuple.elim (motive_1:=fun _=>Bool) zz q (fun ls _ _=>F ls)=true→∃ls j p,zz= .Tuple ls j p∧F ls=true) zz q (fun ls j p _ h=>⟨ls,j,p,rfl,h⟩) q h
noncomputable def Y25(zz:Expr)(F:(List (Option Expr))→(List Expr)→Bool):Bool:=if q:zz.ctorIdx=6 then Expr.Dict.elim (motive_1:=fun _=>Bool) zz q (fun ks vs _=>F ks vs) else false
theorem Gx{zz:Expr}{F:(List (Option Expr))→(List Expr)→Bool}(h:Y25 zz F=true):∃ks vs p,zz= .Dict ks vs p∧F ks vs=true:=by
 obtain⟨q,h⟩:=Yw h
 exact Expr.Dict.elim (motive_1:=fun zz=>∀q:zz.ctorIdx=6,Expr.Dict.elim (motive_1:=fun _=>Bool) zz q (fun ks vs _=>F ks vs)=true→∃ks vs p,zz= .Dict ks vs p∧F ks vs=true) zz q (fun ks vs p _ h=>⟨ks,vs,p,rfl,h⟩) q h
noncomputable def Zy3(zz:Expr)(F:Expr→Expr→Bool):Bool:=if q:zz.ctorIdx=21 then Expr.Subscript.elim (motive_1:=fun _=>Bool) zz q (fun l r _=>F l r) else false
theorem Gm{zz:Expr}{F:Expr→Expr→Bool}(h:Zy3 zz F=true):∃l r p,zz= .Subscript l r p∧F l r=true:=by
 obtain⟨q,h⟩:=Yw h
 exact Expr.Subscript.elim (motive_1:=fun zz=>∀q:zz.ctorIdx=21,Expr.Subscript.elim (motive_1:=fun _=>Bool) zz q (fun l r _=>F l r)=true→∃l r p,zz= .Subscript l r p∧F l r=true) zz q (fun l r p _ h=>⟨l,r,p,rfl,h⟩) q h
noncomputable def Ya2(zz:Expr)(F:(Option Expr)→(Option Expr)→(Option Expr)→Bool):Bool:=if q:zz.ctorIdx=26 then Expr.Slice.elim (motive_1:=fun _=>Bool) zz q (fun x y z _=>F x y z) else false
theorem Za6{zz:Expr}{F:(Option Expr)→(Option Expr)→(Option Expr)→Bool}(h:Ya2 zz F=true):∃x y z p,zz= .Slice x y z p∧F x y z=true:=by
 obtain⟨q,h⟩:=Yw h
 exact Expr.Slice.elim (motive_1:=fun zz=>∀q:zz.ctorIdx=26,Expr.Slice.elim (motive_1:=fun _=>Bool) zz q (fun x y z _=>F x y z)=true→∃x y z p,zz= .Slice x y z p∧F x y z=true) zz q (fun x y z p _ h=>⟨x,y,z,p,rfl,h⟩) q h
noncomputable def Sd(zz:Expr)(F:Expr→(List Expr)→(List Keyword)→Pos→Bool):Bool:=if q:zz.ctorIdx=16 then Expr.Call.elim (motive_1:=fun _=>Bool) zz q (fun fn ls kws p=>F fn ls kws p) else false
theorem Xh{zz:Expr}{F:Expr→(List Expr)→(List Keyword)→Pos→Bool}(h:Sd zz F=true):∃fn ls kws p,zz= .Call fn ls kws p∧F fn ls kws p=true:=by
 obtain⟨q,h⟩:=Yw h
 exact Expr.Call.elim (motive_1:=fun zz=>∀q:zz.ctorIdx=16,Expr.Call.elim (motive_1:=fun _=>Bool) zz q (fun fn ls kws p=>F fn ls kws p)=true→∃fn ls kws p,zz= .Call fn ls kws p∧F fn ls kws p=true) zz q (fun fn ls kws p _ h=>⟨fn,ls,kws,p,rfl,h⟩) q h
noncomputable def Zq9(zz:Expr)(F:Expr→Str→Pos→Bool):Bool:=if q:zz.ctorIdx=20 then Expr.Attribute.elim (motive_1:=fun _=>Bool) zz q (fun l g p=>F l g p) else false
theorem Z06{zz:Expr}{F:Expr→Str→Pos→Bool}(h:Zq9 zz F=true):∃l g p,zz= .Attribute l g p∧F l g p=true:=by
 obtain⟨q,h⟩:=Yw h
 exact Expr.Attribute.elim (motive_1:=fun zz=>∀q:zz.ctorIdx=20,Expr.Attribute.elim (motive_1:=fun _=>Bool) zz q (fun l g p=>F l g p)=true→∃l g p,zz= .Attribute l g p∧F l g p=true) zz q (fun l g p _ h=>⟨l,g,p,rfl,h⟩) q h
noncomputable def onLC(zz:Expr)(F:Expr→(List Comprehension)→Scope→Bool):Bool:=if q:zz.ctorIdx=8 then Expr.ListComp.elim (motive_1:=fun _=>Bool) zz q (fun el gens scope _=>F el gens scope) else false
theorem Cp{zz:Expr}{F:Expr→(List Comprehension)→Scope→Bool}(h:onLC zz F=true):∃el gens scope p,zz= .ListComp el gens scope p∧F el gens scope=true:=by
 obtain⟨q,h⟩:=Yw h
 exact Expr.ListComp.elim (motive_1:=fun zz=>∀q:zz.ctorIdx=8,Expr.ListComp.elim (motive_1:=fun _=>Bool) zz q (fun el gens scope _=>F el gens scope)=true→∃el gens scope p,zz= .ListComp el gens scope p∧F el gens scope=true) zz q (fun el gens scope p _ h=>⟨el,gens,scope,p,rfl,h⟩) q h
noncomputable def on0{α:Type}(l:List α)(b:Bool):Bool:=match l with
 | []=>b
 | _::_=>false
noncomputable def on1{α:Type}(l:List α)(F:α→Bool):Bool:=match l with
 | []=>false
 | x::r=>on0 r (F x)
noncomputable def onC{α:Type}(l:List α)(F:α→List α→Bool):Bool:=match l with
 | []=>false
 | x::r=>F x r
theorem W9{α:Type}{l:List α}{b:Bool}(h:on0 l b=true):l=[]∧b=true:=by
 cases l with
 | nil=>exact⟨rfl,h⟩
 | cons _ _=>exact absurd h Bool.false_ne_true
theorem Wr{α:Type}{l:List α}{F:α→Bool}(h:on1 l F=true):∃x,l=[x]∧F x=true:=by
 cases l with
 | nil=>exact absurd h Bool.false_ne_true
 | cons x r=>obtain⟨rfl,h⟩:=W9 h;exact⟨x,rfl,h⟩
theorem Ph{α:Type}{l:List α}{F:α→List α→Bool}(h:onC l F=true):∃x r,l=x::r∧F x r=true:=by
 cases l with
 | nil=>exact absurd h Bool.false_ne_true
 | cons x r=>exact⟨x,r,rfl,h⟩
noncomputable def noO{α:Type}(o:Option α)(b:Bool):Bool:=match o with
 | none=>b
 | some _=>false
theorem Zx3{α:Type}{o:Option α}{b:Bool}(h:noO o b=true):o=none∧b=true:=by
 cases o with
 | none=>exact⟨rfl,h⟩
 | some _=>exact absurd h Bool.false_ne_true
noncomputable def onZ(i:Int)(b:Bool):Bool:=match i with
 | .ofNat 0=>b
 | _=>false
theorem Zf3{i:Int}{b:Bool}(h:onZ i b=true):i=0∧b=true:=by
 rcases i with(_ | n) | n
 ·exact⟨rfl,h⟩
 ·exact absurd h Bool.false_ne_true
 ·exact absurd h Bool.false_ne_true
noncomputable def soO{α:Type}(o:Option α)(F:α→Bool):Bool:=match o with
 | none=>false
 | some x=>F x
theorem Y16{α:Type}{o:Option α}{F:α→Bool}(h:soO o F=true):∃x,o=some x∧F x=true:=by
 cases o with
 | none=>exact absurd h Bool.false_ne_true
 | some x=>exact⟨x,rfl,h⟩
mutual
noncomputable def chkE(k:Ck):E→Expr→Bool
 | .var i,ex=>Vu ex fun x=>k.N[i]?==some x&&k.vis x
 | .int i,ex=>Qb ex fun v=>match v with
  | .int j=>i==j
  | _=>false
 | .bl b,ex=>Qb ex fun v=>match v with
  | .bool c=>b==c
  | _=>false
 | .non,ex=>Qb ex fun v=>match v with
  | .none=>true
  | _=>false
 | .str x,ex=>Qb ex fun v=>match v with
  | .str y=>x==y
  | _=>false
 | .ty t,ex=>Vu ex fun x=>x==Str.ofString (Xp t)&&k.glob x&&k.BN.contains x
 | .glb g,ex=>Vu ex fun x=>k.GN[g]?==some x&&k.glob x
 | .bin op a b,ex=>Yc8 ex fun l o r=>o==opOf op&&chkE k a l&&chkE k b r
 | .neg a,ex=>onUn ex fun o l=>o== .USub&&chkE k a l
 | .not a,ex=>onUn ex fun o l=>o== .Not&&chkE k a l
 | .cmp op a b,ex=>Y36 ex fun l os rs=>on1 os fun o=>on1 rs fun r=>o==cmOf op&&(!isIn op || Z12 r)&&chkE k a l&&chkE k b r
 | .bop b es,ex=>Zq5 ex fun o ls=>o==(if b then .And else .Or)&&V0 k es ls
 | .ife t a b,ex=>onIf ex fun x l r=>chkE k t x&&chkE k a l&&chkE k b r&&noIf t
 | .lst es,ex=>Y93 ex fun ls=>V0 k es ls
 | .tup es,ex=>Zz0 ex fun ls=>V0 k es ls
 | .dict0,ex=>Y25 ex fun ks vs=>on0 ks (on0 vs true)
 | .dictT,.Dict [] [] _=>true
 | .dct a b,ex=>Y25 ex fun ks vs=>on1 ks fun q=>soO q fun l=>on1 vs fun r=>chkE k a l&&chkE k b r
 | .ix a b,ex=>Zy3 ex fun l r=>Fw r&&chkE k a l&&chkE k b r
 | .sl a lo hi,ex=>Zy3 ex fun l r=>Ya2 r fun x y z=>noO z (chkE k a l&&chkO k lo x&&chkO k hi y)
 | .lrev a,.Call (.Name x _) [.Call (.Name y _) [l] [] _] [] _=>k.calm&&x==("list":Str)&&y==("reversed":Str)&&k.glob x&&k.glob y&&k.BN.contains x&&k.BN.contains y&&noStar l&&chkE k a l
 | .call f es,ex=>Sd ex fun fn ls kws _=>Vu fn fun x=>on0 kws (k.calm&&k.FN[f]?==some x&&k.glob x&&V0 k es ls)
 | .bf b es,ex=>Sd ex fun fn ls kws _=>Vu fn fun x=>on0 kws (onC ls fun l ls=>(k.calm || Pe b)&&x==(bfOf b).1&&k.glob x&&k.BN.contains x&&V0 k es (l::ls))
 | .mt m o es,ex=>Sd ex fun fn ls kws cp=>Zq9 fn fun l nm ap=>on0 kws (nm==mtN m&&Z91 l&&ap.endLine==cp.line&&decide (ls.length<30)&&chkE k o l&&V0 k es ls)
 | .comp N' js tg it cd e,ex=>onLC ex fun el gens scope=>on1 gens fun g=>match g with
  | ⟨t,iter,ifs,as⟩=>onZ as (k.calm&&S7 k.sc k.N N' js scope&&Z12 iter&&Zh5 k it iter&&decide N'.Nodup&&
   O3 {k with N:=N',sc:=Vb scope k.sc,cells:=false,own:=Fo scope,tries:=false,raises:=[]} tg t&&chkC {k with N:=N',sc:=Vb scope k.sc,cells:=false,own:=Fo scope,tries:=false,raises:=[]} cd ifs&&chkE {k with N:=N',sc:=Vb scope k.sc,cells:=false,own:=Fo scope,tries:=false,raises:=[]} e el&&itTg it t)
 | _,_=>false
noncomputable def V0(k:Ck):Es→List Expr→Bool
 | .nil,[]=>true
 | .cons e r,x::xs=>chkE k e x&&noStar x&&V0 k r xs
 | _,_=>false
noncomputable def chkO(k:Ck):Eo→Option Expr→Bool
 | .no,none=>true
 | .yes e,some x=>chkE k e x
 | _,_=>false
noncomputable def chkC(k:Ck):Eo→List Expr→Bool
 | .no,[]=>true
 | .yes e,[x]=>chkE k e x&&noIf e
 | _,_=>false
noncomputable def Zh5(k:Ck):It→Expr→Bool
 | .seq e,x=>chkE k e x
 | .rng1 a,ex=>Sd ex fun fn ls kws _=>Vu fn fun x=>on0 kws (on1 ls fun l=>x==("range":Str)&&k.glob x&&k.BN.contains x&&noStar l&&chkE k a l)
 | .rng2 a b,ex=>Sd ex fun fn ls kws _=>Vu fn fun x=>on0 kws (onC ls fun l ls=>on1 ls fun r=>x==("range":Str)&&k.glob x&&k.BN.contains x&&noStar l&&noStar r&&chkE k a l&&chkE k b r)
 | .rngd a b e,ex=>Sd ex fun fn ls kws _=>Vu fn fun x=>on0 kws (onC ls fun l ls=>onC ls fun r ls=>on1 ls fun m=>x==("range":Str)&&k.glob x&&k.BN.contains x&&noStar l&&noStar r&&noStar m&&chkE k a l&&chkE k b r&&chkE k e m)
 | .enm e,ex=>Sd ex fun fn ls kws _=>Vu fn fun x=>on0 kws (on1 ls fun l=>x==("enumerate":Str)&&k.glob x&&k.BN.contains x&&noStar l&&chkE k e l)
 | .zip es,ex=>Sd ex fun fn ls kws _=>Vu fn fun x=>on0 kws (onC ls fun l ls=>x==("zip":Str)&&k.glob x&&k.BN.contains x&&V0 k es (l::ls))
noncomputable def noIf:E→Bool
 | .ife _ _ _=>false
 | .not a=>noIf a
 | .bop _ es=>Z42 es
 | _=>true
noncomputable def Z42:Es→Bool
 | .nil=>true
 | .cons e r=>noIf e&&Z42 r
end
def Zm2(X:Cx)(x:Str)(sp:DSp):Prop:=
 ∃(kk:Nat) (f:Addr) (fd:FuncData) (ps:List Str) (ds:List Value) (dvs:List V) (dD:List D) (sp0:DSp),FnOk X.prog X.w X.K X.mg X.base (CX1 X.prog X.w) kk f fd ps (spF X.K sp0)∧Room kk X.A∧X.mg x=some (.ref f)∧Ad X.K (.ref f)=true∧
  Zu X.K fd ps ds∧Vals dvs ds∧(∀w:Vw,w.K=X.K→RDs w dD dvs)∧∀as M Q Z,sp as M Q Z→sp0 (as++dD) M Q Z
def Of(K:Ab):Sp:=fun vs H Q _=>∃e C y,vs=[V.ref e,y]∧H e=some (XN e (.ref C) none)∧ExcSet K C "row"∧∀dx,H dx=none→Q .non (upd (upd H dx (.xd [("row",y)])) e (XN e (.ref C) (some dx)))
def Zi4(X:Cx)(C:Addr):Prop:=∃(kk:Nat) (f:Addr) (fd:FuncData),ExcMk X.K C f∧FnOk X.prog X.w X.K X.mg X.base CX0 kk f fd ["self","row"] (Of X.K)∧Room (kk+1) X.A∧Zu X.K fd ["self","row"] [.none]∧Zu X.K fd ["self","row"] []∧ExcSet X.K C "row"
structure Good(c:Cfg)(k:Ck)(Z:DX)(w0:Vw)(X:Cx):Prop where
 hK:X.K=c.K
 wK:w0.K=c.K
 N:X.N=k.N
 nd:X.N.Nodup
 sc:X.env.scope=k.sc
 calm:k.calm=true→X.calm=true
 units:X.A.units+64<cLine
 fns:k.calm=true→∀(f:Nat) (x:Str) (sp:DSp),k.FN[f]?=some x→c.Γ[f]?=some sp→Zm2 X x sp
 flen:k.FN.length=c.Γ.length
 glb:∀(g:Nat) (x:Str) (d:D),k.GN[g]?=some x→c.G[g]?=some d→∃v u,X.mg x=some u∧RelV v u∧∀w:Vw,w.K=X.K→RD w d v
 blt:∀x,x∈k.BN→X.mg x=none
 exc:∃E,Fb (CX1 X.prog X.w) X E∧∀cls dd H',xkOf w0 Z cls dd H'→E cls dd H'
 stk:k.tries=true→X.stack=X.env::X.outer∧X.env.frame=some X.env.locals
 rai:∀g:Nat,k.raises.contains g=true→(∃E,Leaves X E∧∀cls dd H',xkOf w0 Z cls dd H'→E cls dd H')∧∀C:Addr,c.G[g]?=some (.cls C)→Zi4 X C
 po:k.loops=true→PassesOwn (model X.prog X.w) X.A X.env X.xe
 fnc:k.cells=true→∀x,X.fn x=true
 fno:∀x,x∈k.own→X.fn x=true
theorem Gd(x:Ext w w')(h:xkOf w' Z cls dd H'):xkOf w Z cls dd H':=by
 obtain⟨C,dx,r,w2,row,M,e1,e2,e3,e4,h5⟩:=h
 exact⟨C,dx,r,w2,row,M,e1,e2,e3,x.trans e4,h5⟩
def ttD(f:DE):DT:=fun σ M Q=>f σ M fun x M1=>truD M1 x fun b=>Q b M1
section
variable{c:Cfg}{k:Ck}{Z:DX}{w0:Vw}{X:Cx}
theorem Good.gl(G:Good c k Z w0 X){x:Str}(h:k.glob x=true):Gl X x∧(x==("__debug__":Str))=false∧x≠"__name__":=by
 unfold Ck.glob at h
 simp only[Bool.and_eq_true,beq_iff_eq,Bool.not_eq_true',beq_eq_false_iff_ne] at h
 refine⟨?_,by simpa using h.1.2,h.2⟩
 unfold Gl Env.kindOf
 rw[G.sc];exact h.1.1
theorem Good.vis(G:Good c k Z w0 X){x:Str}(h:k.vis x=true):Vis X.env.scope x∧(x==("__debug__":Str))=false∧(x==("__classdict__":Str))=false:=by
 unfold Ck.vis at h
 simp only[Bool.and_eq_true,beq_iff_eq,Bool.not_eq_true',Bool.or_eq_true] at h
 refine⟨?_,h.1.2,h.2⟩
 unfold Vis
 rw[G.sc]
 rcases h.1.1 with(q | q) | q
 ·exact .inl q
 ·exact .inr (.inl q)
 ·exact .inr (.inr q)
theorem Good.locC(G:Good c k Z w0 X){x:Str}(h:k.locC x=true):Loc X.env.scope x∧(X.fn x=true∨X.env.scope.names.lookup x=some .local):=by
 unfold Ck.locC Ck.loc at h
 rw[Bool.or_eq_true,Bool.and_eq_true] at h
 rcases h with h | ⟨h1,h2⟩
 ·have hl:X.env.scope.names.lookup x=some .local:=by rw[G.sc];exact Iy h
  exact⟨.inl hl,.inr hl⟩
 ·refine⟨.inr (by rw[G.sc];exact Iy h2),.inl ?_⟩
  rw[Bool.or_eq_true,Dz] at h1
  rcases h1 with z | z
  ·exact G.fnc z x
  ·exact G.fno x z
theorem Good.eK(G:Good c k Z w0 X):X.K=w0.K:=G.hK.trans G.wK.symm
theorem StOk.K(S:StOk w0 w σD M σ H):w.K=w0.K:=S.ext.K
theorem Yq(S:StOk w0 w σD M σ H)(h:f σD M QD)(a:Aft w QD Q):tF w0 f σ H Q:=⟨w,σD,M,QD,S,h,a⟩
theorem Gn(h:Z91 l=true):attributeBase l nm env (eval l env)=eval l env:=by
 unfold attributeBase
 split
 ·rename_i id np pos
  have:(id !="super" || nm=="__class__" || env.kindOf "super" !=some .globalImplicit || env.kindOf "__class__" !=some .free)=true:=by
   have:(id !=("super":Str))=true:=h
   rw[this];rfl
  simp only[this,if_true]
 ·rfl
theorem Zk{x:Expr}(h:noStar x=true):starEach (x::xs) env=(false,eval x env)::starEach xs env:=by
 cases x<;>first | rfl | cases h
theorem Wb{k:Ck}:∀(es:Es) (xs:List Expr),V0 k es xs=true→(starEach xs env).all (fun p=> !p.1)=true
 | .nil,[],_=>rfl
 | .nil,_::_,h=>absurd h Bool.false_ne_true
 | .cons e r,[],h=>absurd h Bool.false_ne_true
 | .cons e r,x::xs,h=>by
  simp only[V0,Bool.and_eq_true] at h
  rw[Zk h.1.2]
  simp only[Hu,Bool.not_false,Bool.true_and]
  exact Wb r xs h.2
theorem Tc(h:l.all (fun p=> !p.1)=true):(backTo pos l).any (·.1)=false:=by
 induction l with
 | nil=>rfl
 | cons p r ih=>
  simp only[Hu,Bool.and_eq_true,Bool.not_eq_true'] at h
  show(p.1 || (backTo pos r).any (·.1))=false
  rw[h.1,ih h.2];rfl
theorem Zp3(h:l.all (fun p=> !p.1)=true):(backTo pos l).all (fun x=> !x.1)=true:=by
 induction l with
 | nil=>rfl
 | cons p r ih=>
  simp only[Hu,Bool.and_eq_true] at h
  show((!p.1)&&(backTo pos r).all (fun x=> !x.1))=true
  rw[h.1,ih h.2];rfl
theorem Yd9(G:Good c k Z w0 X)(h:PE X ex (tF w0 f))(he:∀whole,isTrue ex X.env whole=(do let v ←whole;standAt ex.pos;holding [v] (truthy v))):PT X ex (tFT w0 (ttD f)):=by
 refine PT.imp (Zl7 h he) fun σ H Q zz73=>?_
 obtain⟨w,σD,M,QD,S,g,a⟩:=zz73
 refine Yq S g fun v w' d M' x r rd q=>?_
 obtain⟨b,t1,t2⟩:=Sg (K:=X.K) (by rw[x.K,S.K,G.eK]) r rd q
 exact⟨b,t1,a b w' M' x r t2⟩
theorem Zu9(h:PT X ex (Y55 (tF w0 f)))(hb:∀σD M QD,f σD M QD→f σD M fun d M'=>(∃b,d= .bl b)∧QD d M'):PT X ex (tFT w0 (ttD f)):=by
 refine PT.imp h fun σ H Q zz74=>?_
 obtain⟨w,σD,M,QD,S,g,a⟩:=zz74
 refine Yq S (hb _ _ _ g) fun v w' d M' x r rd q=>?_
 obtain⟨⟨b,rfl⟩,q⟩:=q
 cases Ww.mp rd
 exact⟨b,rfl,a b w' M' x r q⟩
theorem Z70(h:tF w0 (fun σD M QD=>fa σD M fun x M1=>fb σD M1 fun y M2=>g x y M2 QD) σ H Q):tOp (rF w0 g) (tF w0 fa) (tF w0 fb) σ H Q:=by
 obtain⟨w,σD,M,QD,S,g0,a⟩:=h
 refine Yq S g0 fun x w1 dx M1 x1 r1 rx q1=>?_
 refine Yq (S.next x1 r1) q1 fun y w2 dy M2 x2 r2 ry q2=>?_
 exact⟨w2,M2,dx,dy,QD,rfl,(S.ext.trans x1).trans x2,r2,rx.ext x2,ry,q2,a.ext (x1.trans x2)⟩
theorem Gb(h:tF w0 (fun σD M QD=>fa σD M fun x M1=>fb σD M1 fun y M2=>g M2 x y fun b=>QD (.bl b) M2) σ H Q):tOp (rB w0 g) (tF w0 fa) (tF w0 fb) σ H Q:=by
 obtain⟨w,σD,M,QD,S,g0,a⟩:=h
 refine Yq S g0 fun x w1 dx M1 x1 r1 rx q1=>?_
 refine Yq (S.next x1 r1) q1 fun y w2 dy M2 x2 r2 ry q2=>?_
 exact⟨w2,M2,dx,dy,_,rfl,((S.ext.trans x1).trans x2).K,r2,rx.ext x2,ry,q2,fun b hb=>a _ w2 _ M2 (x1.trans x2) r2 (Ww.mpr rfl) hb⟩
theorem Zz2{a:Expr}(ha:PE X a ta):PE X (.UnaryOp .Not a pos) (fun σ H Q=>ta σ H fun x H1=>∃b,TruV X.K x H1 b∧Q (.bl (!b)) H1):=by
 intro pins s σ H Q I h
 refine UnaryOp_ (thn (ha pins s σ H _ I h) fun v s1 zz75=>?_)
 obtain⟨x,H1,I1,r1,q1⟩:=zz75
 refine not_of (thn (Co pins s1 σ H1 x v (fun b H2=>Q (.bl (!b)) H2) I1 r1 q1) fun b s2 zz76=>by obtain⟨H2,I2,q2⟩:=zz76;exact⟨.bl (!b),H2,I2,rfl,q2⟩)
theorem Zz9(t:Ty):bootBuiltins (Str.ofString (Xp t))=some (.type (Xp t)):=by
 cases t
 ·exact boot_int
 ·exact boot_str
 ·exact boot_bool
 ·exact boot_list
 ·exact boot_tuple
 ·exact boot_dict
 ·show bootBuiltins "ValueError"=some (.type "ValueError")
  decide+kernel
theorem Nv:bootBuiltins "reversed"=some (.type "reversed"):=by decide+kernel
theorem Zw7(b:Bf):bootBuiltins (bfOf b).1=some (bfOf b).2:=by
 cases b<;>first | exact PySem.boot_len | exact boot_isinstance | exact PyProof.Rows.boot_min | exact PyProof.Rows.boot_max | exact boot_list | exact boot_tuple | exact boot_dict | exact boot_str | exact boot_sorted | exact boot_int
end
def JOk(w1:Vw)(J:L2.It)(own:Own)(xs:List D):Prop:=∀w M,Ext w1 w→RS w M→Pl own xs M→∀i:Nat,
 (∀d,xs[i]?=some d→J.go i w.H∧∀x H',J.yld i w.H x H'→∃w',w'.H=H'∧Ext w w'∧RS w' M∧RD w' d x)∧(xs.length≤i→J.stop i w.H)
def iF(w0:Vw)(f:DEnv→Z3→(Own→List D→Z3→Prop)→Prop):TI:=fun σ H R=>∃w σD M QD,StOk w0 w σD M σ H∧f σD M QD∧
 ∀J w' own xs M',Ext w w'→RS w' M'→JOk w' J own xs→QD own xs M'→R J w'.H
section
variable{c:Cfg}{k:Ck}{Z:DX}{w0:Vw}{X:Cx}
theorem PI.imp{t t':TI}(h:PI X tg it t)(q:∀σ H R,t' σ H R→t σ H R):PI X tg it t':=fun pins s σ H R I z=>h pins s σ H R I (q σ H R z)
theorem Y94(hl:PE X l tl):PI X tg l (fun σ H R=>tl σ H fun x H1=>(∃a,x= .ref a∧(∃xs,SqL X.K H1 a xs)∧R (Itl X.K a) H1)∨∃a,x= .ref a∧(∃xs,SqT X.K H1 a xs)∧R (Itt X.K a) H1):=by
 intro pins s σ H R I h
 refine thn (hl pins s σ H _ I h) fun v s1 zz77=>?_
 obtain⟨x,H1,I1,r1,q1⟩:=zz77
 have fp:∀b∈[s1.heap.objs.size],FpOk X pins H1 b:=fun b hb=>by
  have e:b=s1.heap.objs.size:=by simpa using hb
  subst e
  exact I1.fpOk (Nat.le_refl _) (I1.hok.fresh (Nat.le_refl _))
 rcases q1 with⟨a,e,⟨xs,hq⟩,q⟩ | ⟨a,e,⟨xs,hq⟩,q⟩
 ·subst e
  cases r1
  obtain⟨its,rv,p,hz⟩:=I1.list hq
  refine wpAny_pyIter_list p.isList ?_
  exact⟨s1.heap.objs.size,[s1.heap.objs.size],_,_,H1,rfl,I1.kept (t':=s1.toks) fun b o e=>Ae _ e,Zf4 a _,⟨_,Aq _ rfl,rfl,rfl⟩,fp,q⟩
 ·subst e
  cases r1
  obtain⟨its,rv,p,hz⟩:=I1.tuple hq
  refine wpAny_pyIter_tuple (show s1.heap.IsTuple a its.toArray from p) ?_
  exact⟨s1.heap.objs.size,[s1.heap.objs.size],_,_,H1,rfl,I1.kept (t':=s1.toks) fun b o e=>Ae _ e,Z00 a _,⟨_,Aq _ rfl,rfl,rfl⟩,fp,q⟩
theorem Zy4(hl:PE X l tl):PI X tg l (fun σ H R=>tl σ H fun x H1=>∃a kvs,x= .ref a∧H1 a=some (.dK kvs)∧∀o,(∀o' u,X.H₀ a≠some (.frz o' u))→R (Itd a o) (upd H1 a (.frz o (.dK kvs)))):=by
 intro pins s σ H R I h
 refine thn (hl pins s σ H _ I h) fun v s1 zz78=>?_
 obtain⟨x,H1,I1,r1,a,kvs,e,hq,q⟩:=zz78
 subst e
 cases r1
 obtain⟨o,es,ep,hd,ho,I2,nf⟩:=Zo8 I1 hq
 obtain⟨vs,rel,dd,hlen⟩:=Z53 (I2.hok a _ Zs) hd
 obtain⟨_,hs,_⟩:=Z11 I1.hok hq
 refine wpAny_pyIter_dict hs dd ?_
 have fresh:upd H1 a (.frz o (.dK kvs)) s1.heap.objs.size=none:=I2.hok.fresh (Nat.le_refl _)
 have fp:∀b∈[s1.heap.objs.size],FpOk X pins (upd H1 a (.frz o (.dK kvs))) b:=fun b hb=>by
  have e:b=s1.heap.objs.size:=by simpa using hb
  subst e
  exact I2.fpOk (Nat.le_refl _) fresh
 rw[hlen]
 exact⟨s1.heap.objs.size,[s1.heap.objs.size],_,_,_,rfl,I2.kept (t':=s1.toks) fun b o e=>Ae _ e,Ze9 a _ hd,⟨_,Aq _ rfl,rfl,rfl⟩,fp,q o nf⟩
theorem Zr9:∀{ds:List (Key×D)} {vs:List (Key×V)} {i:Nat} {d:D},RKV w ds vs→(Nn ds)[i]?=some d→∃p,vs[i]?=some p∧RD w d (kV p.1)
 | [],vs,i,d,h,e=>by simp[Nn] at e
 |(k,x)::ds,vs,i,d,h,e=>by
  unfold RKV at h
  obtain⟨v,r,rfl,h1,h2⟩:=h
  cases i with
  | zero=>
   cases e
   refine⟨(k,v),rfl,?_⟩
   cases k with
   | inl i=>exact Zj.mpr rfl
   | inr x=>exact Yg.mpr rfl
  | succ i=>exact Zr9 (i:=i) h2 e
theorem Zo0{n:Nat}(hn:n<w1.n)(h:w1.H (w1.μ n)=some (.frz o (.dK vs))):JOk w1 (Itd (w1.μ n) o) (.dct n) xs:=by
 intro w M x R st i
 obtain⟨kvs,st,rfl⟩:=st
 have q:=x.imm _ _ h rfl
 obtain⟨o',us,q1,q2⟩:=R.cell n _ st
 rw[x.μ n hn,q] at q1
 cases q1
 refine⟨fun d e=>?_,fun hl=>⟨vs,q,by rw[q2.length];unfold Nn at hl;rw[Ah] at hl;exact hl⟩⟩
 obtain⟨p,z1,z2⟩:=Zr9 q2 e
 refine⟨⟨vs,p,q,z1⟩,fun y H' ⟨e1,e2⟩=>⟨w,e1.symm,Ext.refl w,R,?_⟩⟩
 obtain⟨p',z3,z4⟩:=e2 vs q
 rw[z1] at z3
 cases z3
 rw[z4]
 exact z2
theorem Zj2{n:Nat}(hK:X.K=w1.K)(hn:n<w1.n):JOk w1 (Itl X.K (w1.μ n)) (.lst n) xs:=by
 intro w M x R st i
 obtain⟨_,vs,q1,q2,_⟩:=R.listL st
 rw[x.μ n hn,x.K,←hK] at q1
 refine⟨fun d e=>?_,fun hl=>⟨vs,q1,by rw[q2.length];exact hl⟩⟩
 obtain⟨v,z1,z2⟩:=q2.get e
 refine⟨⟨vs,v,q1,z1⟩,fun y H' ⟨e1,e2⟩=>⟨w,e1.symm,Ext.refl w,R,?_⟩⟩
 have:=e2 vs q1
 rw[z1] at this
 cases this
 exact z2
theorem Zo6{n:Nat}(hK:X.K=w1.K)(hn:n<w1.n):JOk w1 (Ite X.K (w1.μ n)) (.enm n) xs:=by
 intro w M x R st i
 obtain⟨ys,st,rfl⟩:=st
 obtain⟨_,vs,q1,q2,_⟩:=R.listL st
 rw[x.μ n hn,x.K,←hK] at q1
 refine⟨fun d e=>?_,fun hl=>⟨vs,q1,by rw[q2.length];unfold Gr at hl;rw[List.length_mapIdx] at hl;exact hl⟩⟩
 unfold Gr at e
 rw[Km,Dm] at e
 obtain⟨d,e,rfl⟩:=e
 obtain⟨v,z1,z2⟩:=q2.get e
 refine⟨⟨vs,v,q1,z1⟩,fun y H' zz81=>?_⟩
 obtain⟨p,u,hp,e1,e2,e3⟩:=zz81
 have:=e3 vs q1
 rw[z1] at this
 cases this
 subst e1 e2
 obtain⟨a1,a2,a3⟩:=Sy R hp (RDs.cons (Zj.mpr (rfl:V.int (i:Int)=_)) (RDs.cons z2 (RDs.nil w)))
 exact⟨_,rfl,a1,a2,a3⟩
theorem Za5(h1:RDs w ys us)(h2:RDs w zs vs){i:Nat}{d:D}(e:(zipT ys zs)[i]?=some d):∃x y u v,d= .tup [x,y]∧us[i]?=some u∧vs[i]?=some v∧RD w x u∧RD w y v:=by
 unfold zipT at e
 rw[Ax,Dm] at e
 obtain⟨p,e,rfl⟩:=e
 rw[List.getElem?_zip_eq_some] at e
 obtain⟨u,a1,a2⟩:=h1.get e.1
 obtain⟨v,b1,b2⟩:=h2.get e.2
 exact⟨_,_,u,v,rfl,a1,b1,a2,b2⟩
theorem Y08{n m:Nat}(hK:X.K=w1.K)(hn:n<w1.n)(hm:m<w1.n):JOk w1 (Itz X.K (w1.μ n) (w1.μ m)) (.two n m) xs:=by
 intro w M x R st i
 obtain⟨ys,zs,st,st2,rfl⟩:=st
 obtain⟨_,us,q1,q2,_⟩:=R.listL st
 obtain⟨_,vs,p1,p2,_⟩:=R.listL st2
 rw[x.μ n hn,x.K,←hK] at q1
 rw[x.μ m hm,x.K,←hK] at p1
 refine⟨fun d e=>?_,fun hl=>⟨us,vs,q1,p1,?_⟩⟩
 ·obtain⟨dx,dy,u,v,rfl,a1,a2,a3,a4⟩:=Za5 q2 p2 e
  refine⟨⟨us,vs,u,v,q1,p1,a1,a2⟩,fun y H' zz82=>?_⟩
  obtain⟨p,u',v',hp,e1,e2,e3,e4⟩:=zz82
  have h3:=e3 us q1
  have h4:=e4 vs p1
  rw[a1] at h3
  rw[a2] at h4
  cases h3
  cases h4
  subst e1 e2
  obtain⟨b1,b2,b3⟩:=Sy R hp (RDs.cons a3 (RDs.cons a4 (RDs.nil w)))
  exact⟨_,rfl,b1,b2,b3⟩
 ·have l1:=q2.length
  have l2:=p2.length
  unfold zipT at hl
  rw[Ah,List.length_zip] at hl
  omega
theorem Zm5{a b:D}(h:zip2 M a b Q):(∃n m ys zs,a= .ref n∧b= .ref m∧Zo M n=some ys∧Zo M m=some zs∧Q (.two n m) (zipT ys zs))∨(∃ys zs,a= .tup ys∧b= .tup zs∧Q .no (zipT ys zs)):=by
 cases a with
 | ref n=>
  obtain⟨m,rfl,ys,zs,h1,h2,h3⟩:=W8 h
  exact .inl ⟨n,m,ys,zs,rfl,rfl,h1,h2,h3⟩
 | tup ys=>
  obtain⟨zs,rfl,h1⟩:=G3 h
  exact .inr ⟨ys,zs,rfl,rfl,h1⟩
 | _=>exact De h
theorem Zn0{a b:Addr}(ha:w1.H a=some (.tup us))(hb:w1.H b=some (.tup vs))(hr:RDs w1 ys us)(hs:RDs w1 zs vs):JOk w1 (Itzt X.K a b us vs) .no (zipT ys zs):=by
 intro w M x R st i
 have q1:SqT X.K w.H a us:= .of (x.imm _ _ ha rfl)
 have p1:SqT X.K w.H b vs:= .of (x.imm _ _ hb rfl)
 have q2:=hr.ext x
 have p2:=hs.ext x
 refine⟨fun d e=>?_,fun hl=>⟨q1,p1,?_⟩⟩
 ·obtain⟨dx,dy,u,v,rfl,a1,a2,a3,a4⟩:=Za5 q2 p2 e
  refine⟨⟨u,v,q1,p1,a1,a2⟩,fun y H' zz83=>?_⟩
  obtain⟨p,u',v',hp,e1,e2,e3,e4⟩:=zz83
  rw[a1] at e3
  rw[a2] at e4
  cases e3
  cases e4
  subst e1 e2
  obtain⟨b1,b2,b3⟩:=Sy R hp (RDs.cons a3 (RDs.cons a4 (RDs.nil w)))
  exact⟨_,rfl,b1,b2,b3⟩
 ·have l1:=q2.length
  have l2:=p2.length
  unfold zipT at hl
  rw[Ah,List.length_zip] at hl
  omega
theorem Z84{a:Addr}(hK:X.K=w1.K)(h:SqT w1.K w1.H a vs)(r:RDs w1 xs vs):JOk w1 (Itt X.K a) .no xs:=by
 intro w M x R st i
 have q1:=x.sqT h
 rw[x.K,←hK] at q1
 have q2:=r.ext x
 refine⟨fun d e=>?_,fun hl=>⟨vs,q1,by rw[q2.length];exact hl⟩⟩
 obtain⟨v,z1,z2⟩:=q2.get e
 refine⟨⟨vs,v,q1,z1⟩,fun y H' ⟨e1,e2⟩=>⟨w,e1.symm,Ext.refl w,R,?_⟩⟩
 have:=e2 vs q1
 rw[z1] at this
 cases this
 exact z2
theorem Z62{w1:Vw}{lo:Int}{n:Nat}:JOk w1 (Itr lo n) .no (Pq lo n):=by
 intro w M x R st i
 unfold Pq
 refine⟨fun d e=>?_,fun hl=>?_⟩
 ·rw[Ax,Dm] at e
  obtain⟨j,h1,rfl⟩:=e
  obtain⟨h2,h3⟩:=Af.mp h1
  have hj:j=i:=by simpa using h3.symm
  subst hj
  have h4:j<n:=by simpa using h2
  exact⟨h4,fun y H' zz85=>by obtain⟨e1,e2⟩:=zz85;exact⟨w,e1.symm,Ext.refl w,R,by rw[e2];exact Zj.mpr rfl⟩⟩
 ·have:n≤i:=by simpa using hl
  exact this
theorem Zg4{w1:Vw}{lo:Int}{n:Nat}:JOk w1 (Itdn lo n) .no (Bw lo n):=by
 intro w M x R st i
 unfold Bw
 refine⟨fun d e=>?_,fun hl=>?_⟩
 ·rw[Ax,Dm] at e
  obtain⟨j,h1,rfl⟩:=e
  obtain⟨h2,h3⟩:=Af.mp h1
  have hj:j=i:=by simpa using h3.symm
  subst hj
  have h4:j<n:=by simpa using h2
  exact⟨h4,fun y H' zz86=>by obtain⟨e1,e2⟩:=zz86;exact⟨w,e1.symm,Ext.refl w,R,by rw[e2];exact Zj.mpr rfl⟩⟩
 ·have:n≤i:=by simpa using hl
  exact this
theorem Zc4{s:Shared}:(cxC X N' scope cl C fp pins s H).env.scope=Vb scope X.env.scope:=rfl
theorem Good.block(G:Good c k Z w0 X)(hc:k.calm=true)(hn:N'.Nodup)(cl:List (Str×Addr))(C:Addr)(fp:List Addr)(pins:List (Addr×Obj))(s:Shared)(H:Hp):
  Good c {k with N:=N',sc:=Vb scope k.sc,cells:=false,own:=Fo scope,tries:=false,raises:=[]} noX w0 (cxC X N' scope cl C fp pins s H) where
 hK:=G.hK
 wK:=G.wK
 N:=rfl
 nd:=hn
 sc:=by rw[Zc4,G.sc]
 calm:=fun _=>G.calm hc
 units:=G.units
 fns:=fun _ f x sp h1 h2=>by
  obtain⟨kk,f,fd,ps,ds,dvs,dD,sp0,h⟩:=G.fns hc f x sp h1 h2
  exact⟨kk,f,fd,ps,ds,dvs,dD,sp0,h⟩
 flen:=G.flen
 glb:=G.glb
 blt:=G.blt
 exc:=⟨E0,fun _ _ _ _ _ _ _ h=>by
  obtain⟨_,_,_,_,_,_,_,_,_,_,_,_,_,_,_,h⟩:=h
  exact h.elim,fun cls dd H' h=>by
  obtain⟨_,_,_,_,_,_,_,_,_,_,_,_,_,h⟩:=h
  exact h.elim⟩
 stk:=fun h=>by cases h
 rai:=fun _ h=>absurd h Bool.false_ne_true
 po:=fun _=>PassesOwn.never
 fnc:=fun h=>by cases h
 fno:=fun x hx=>by
  show(scope.names.any fun y=>y.1==x&&y.2==Hg)=true
  have hx:x∈(scope.names.filter fun y=>y.2==Hg).map (·.1):=hx
  obtain⟨y,hy,rfl⟩:=List.mem_map.mp hx
  obtain⟨h1,h2⟩:=List.mem_filter.mp hy
  rw[Iv]
  exact⟨y,h1,by rw[beq_self_eq_true,Bool.true_and];exact h2⟩
theorem Good.tgs(G:Good c k Z w0 X):∀(is:List Nat) (es:List Expr),Zw9 k is es=true→PGs X es (gAll is)∧(assignEach es X.env).length=is.length∧(assignEach es X.env).findIdx? (·.1)=none:=by
 have one:∀(i:Nat) (x:Str) (pos:Pos),k.N[i]?=some x→k.locC x=true→PG X (.Name x pos) (Zb2 i):=fun i x pos h1 h2=>by
  obtain⟨l1,l2⟩:=G.locC h2
  exact Zf5 G.nd (by rw[G.N];exact h1) l1 l2
 intro is
 induction is with
 | nil=>
  intro es h
  cases es with
  | nil=>exact⟨Zu0,rfl,rfl⟩
  | cons e es=>exact absurd h Bool.false_ne_true
 | cons i is ih=>
  intro es h
  cases es with
  | nil=>exact absurd h Bool.false_ne_true
  | cons e es=>
   cases e with
   | Name x pos=>
    change (_&&_)=true at h
    simp only[Bool.and_eq_true,beq_iff_eq] at h
    obtain⟨h1,h2,h3⟩:=ih es h.2
    refine⟨Zj5 (one i x pos h.1.1 h.1.2) h1 rfl,?_,?_⟩
    ·show(assignEach es X.env).length+1=is.length+1
     rw[h2]
    ·show((false,_)::assignEach es X.env).findIdx? (·.1)=none
     rw[List.findIdx?_cons,h3]
     rfl
   | _=>exact absurd h Bool.false_ne_true
theorem Good.tgt(G:Good c k Z w0 X):∀(is:List Nat) (ex:Expr),O3 k is ex=true→PG X ex (gF w0 is):=by
 have one:∀(i:Nat) (x:Str) (pos:Pos),k.N[i]?=some x→k.locC x=true→PG X (.Name x pos) (Zb2 i):=fun i x pos h1 h2=>by
  obtain⟨l1,l2⟩:=G.locC h2
  exact Zf5 G.nd (by rw[G.N];exact h1) l1 l2
 have many:=G.tgs
 intro is ex h
 cases ex with
 | Name x pos=>
  match is,h with
  | [i],h=>
   change (_&&_)=true at h
   simp only[Bool.and_eq_true,beq_iff_eq] at h
   exact Y97 (one _ x pos h.1 h.2)
  | [],h=>exact absurd h Bool.false_ne_true
  | _::_::_,h=>exact absurd h Bool.false_ne_true
 | Tuple es kk pos=>
  change (_&&_)=true at h
  simp only[Bool.and_eq_true,decide_eq_true_eq] at h
  obtain⟨h1,h2,h3⟩:=many is es h.2
  exact Y05 h.1.2 (Y83 (G.calm h.1.1) h1 h2 h3)
 | _=>exact absurd h Bool.false_ne_true
theorem Zx7(h:REnv w σD σ):REnv w (capD js σD) (Sw js σ):=by
 refine⟨by unfold capD Sw;simp,fun i d e=>?_⟩
 unfold capD at e
 unfold Sw
 rw[Ax] at e ⊢
 cases hj:js[i]? with
 | none=>rw[hj] at e;cases e
 | some o=>
  rw[hj] at e
  simp only[Option.map_some,Option.some.injEq] at e ⊢
  cases o with
  | none=>cases e
  | some j=>
   simp only[Dp] at e ⊢
   cases hz:σD[j]? with
   | none=>rw[hz] at e;cases e
   | some z=>
    rw[hz] at e
    have e':z=some d:=e
    subst e'
    obtain⟨v,q1,q2⟩:=h.2 j d hz
    exact⟨v,by rw[q1];rfl,q2⟩
theorem Zn8{own:Own}{M1:Z3}(e0:Ext w0 w1)(hH:w1.H=H1)(R1:RS w1 M1)(env:REnv w1 σD σ)(jk:JOk w1 J own xs)
  (h:Ji own xs tg cd el M1.length xs σD (M1++[.lst []]) QD) (a:Aft w1 (fun d M=>d= .ref M1.length∧QD M) Q):∀p,H1 p=none→∃W:Nat→Nat→L2.St→Hp→Prop,(∃m,W 0 m σ (upd H1 p (.lst [])))∧
   ∀i m σc Hc,W i m σc Hc→(J.stop i Hc∧Q (.ref p) Hc)∨(J.go i Hc∧∀x H',J.yld i Hc x H'→gF w0 tg x σc H' fun σ2 H2=>tFT w0 cd σ2 H2 fun b H3=>if b=true then tF w0 el σ2 H3 fun y H4=>∃acc,H4 p=some (.lst acc)∧acc.length<sizeLine∧
    ∃m',m'<m∧W (i+1) m' σ2 (upd H4 p (.lst (acc++[y]))) else ∃m',m'<m∧W (i+1) m' σ2 H3):=by
 intro p hp
 subst hH
 obtain⟨x1,R2,rz⟩:=T9 (xs:=[]) R1 hp (RDs.nil w1)
 have hz:M1.length< (w1.push p (.lst [])).n∧p=(w1.push p (.lst [])).μ M1.length:=by
  obtain⟨z1,z2⟩:=Y1.mp rz
  exact⟨z1,by injection z2⟩
 refine⟨fun i m σc Hc=>∃w σE M,StOk w0 w σE M σc Hc∧Ext (w1.push p (.lst [])) w∧i≤xs.length∧m=xs.length - i∧Ji own xs tg cd el M1.length (xs.drop i) σE M QD,⟨xs.length,w1.push p (.lst []),σD,_,⟨rfl,e0.trans x1,R2,env.ext x1⟩,Ext.refl _,Nat.zero_le _,rfl,h⟩,?_⟩
 rintro i m σc Hc ⟨w,σE,M,S,x2,hi,rfl,hc⟩
 have x12:Ext w1 w:=x1.trans x2
 have hp':w.μ M1.length=p:=(x2.μ _ hz.1).trans hz.2.symm
 have hlt:M1.length<w.n:=Nat.lt_of_lt_of_le hz.1 x2.n
 have stp:∀st:Pl own xs M,_:=fun st=>jk w M x12 S.rs st i
 rw[S.heap] at stp
 by_cases hil:i<xs.length
 ·rw[Hn hil] at hc
  obtain⟨st,hc⟩:=hc
  obtain⟨j1,j2⟩:=(stp st).1 xs[i] (Ai hil)
  refine .inr ⟨j1,fun x H' hy=>?_⟩
  obtain⟨w3,rfl,x3,R3,rd3⟩:=j2 x H' hy
  refine⟨w3,σE,M,xs[i],_,⟨rfl,S.ext.trans x3,R3,S.env.ext x3⟩,rd3,hc,fun σ2 σE2 env2 q2=>?_⟩
  refine⟨w3,σE2,M,_,⟨rfl,S.ext.trans x3,R3,env2⟩,q2,fun b w4 M4 x4 R4 q4=>?_⟩
  cases b with
  | true=>
   rw[if_pos rfl] at q4 ⊢
   refine Yq ⟨rfl,(S.ext.trans x3).trans x4,R4,env2.ext x4⟩ q4 fun y w5 dy M5 x5 R5 rd5 q5=>?_
   obtain⟨acc,g1,g2,g3⟩:=q5
   obtain⟨hn,vs,z1,z2⟩:=R5.list g1
   have x35:Ext w w5:=(x3.trans x4).trans x5
   have hp5:w5.μ M1.length=p:=(x35.μ _ hlt).trans hp'
   obtain⟨y1,y2⟩:=Wt R5 hn z1 (z2.append (RDs.cons rd5 (RDs.nil w5)))
   rw[hp5] at z1 y1 y2
   refine⟨vs,z1,by rw[z2.length];exact g2,xs.length - (i+1),by omega,w5.alloc p (.lst (vs++[y])),σE2,_,⟨rfl,(S.ext.trans x35).trans y1,y2,(env2.ext (x4.trans x5)).ext y1⟩,(x2.trans x35).trans y1,hil,rfl,g3⟩
  | false=>
   rw[if_neg Bool.false_ne_true] at q4 ⊢
   exact⟨xs.length - (i+1),by omega,w4,σE2,M4,⟨rfl,(S.ext.trans x3).trans x4,R4,env2.ext x4⟩,(x2.trans x3).trans x4,hil,rfl,q4⟩
 ·rw[List.drop_eq_nil_of_le (by omega)] at hc
  obtain⟨st,hq⟩:=hc
  refine .inl ⟨(stp st).2 (by omega),?_⟩
  have:=a (.ref p) w (.ref M1.length) M x12 S.rs (Y1.mpr ⟨hlt,by rw[hp']⟩) ⟨rfl,hq⟩
  rw[S.heap] at this
  exact this
end
def Zp8(c:Cfg)(e:E):Prop:=∀(k:Ck) (Z:DX) (w0:Vw) (X:Cx) (ex:Expr),Good c k Z w0 X→chkE k e ex=true→PE X ex (tF w0 (te c Z e))∧(noIf e=true→PT X ex (tFT w0 (ttD (te c Z e))))
def Y29(c:Cfg)(es:Es):Prop:=∀(k:Ck) (Z:DX) (w0:Vw) (X:Cx) (ls:List Expr),Good c k Z w0 X→V0 k es ls=true→PA X ls (tFA w0 (tes c Z es))∧
 ∀(b:Bool) (pos:Pos),PE X (.BoolOp (if b then .And else .Or) ls pos) (tF w0 (tbop c Z b es))∧(Z42 es=true→PW X (.BoolOp (if b then .And else .Or) ls pos) (tFT w0 (ttD (tbop c Z b es))))
def Zr6(c:Cfg)(eo:Eo):Prop:=(∀(k:Ck) (Z:DX) (w0:Vw) (X:Cx) (lo:Option Expr),Good c k Z w0 X→chkO k eo lo=true→PO X lo (tFO w0 (teo c Z eo)))∧
 ∀(k:Ck) (Z:DX) (w0:Vw) (X:Cx) (ls:List Expr),Good c k Z w0 X→chkC k eo ls=true→(∃x,ls=[x]∧PT X x (tFT w0 (tcd c Z eo)))∨(ls=[]∧eo= .no)
def Ya0(c:Cfg)(it:It):Prop:=∀(k:Ck) (Z:DX) (w0:Vw) (X:Cx) (tg ex:Expr),Good c k Z w0 X→Zh5 k it ex=true→itTg it tg=true→PI X tg ex (iF w0 (tit c Z it))
section
variable{c:Cfg}{k:Ck}{Z:DX}{w0:Vw}{X:Cx}
theorem Oi{d:D}{v:V}(hv:∀w:Vw,w.K=w0.K→RD w d v)(h:tF w0 (fun _ M Q=>Q d M) σ H Q):tC v σ H Q:=by
 obtain⟨w,σD,M,QD,S,g,a⟩:=h
 have:=a v w d M (Ext.refl w) S.rs (hv w S.K) g
 rw[S.heap] at this
 exact this
theorem both(G:Good c k Z w0 X)(h:PE X ex (tF w0 f))(he:∀whole,isTrue ex X.env whole=(do let v ←whole;standAt ex.pos;holding [v] (truthy v))):
  PE X ex (tF w0 f)∧(b=true→PT X ex (tFT w0 (ttD f))):=⟨h,fun _=>Yd9 G h he⟩
theorem Z43{x:Str}(G:Good c k Z w0 X)(hc:k.calm=true)(hf:k.FN[f]?=some x)(hg:k.glob x=true)(hs:V0 k es ls=true)(ih:PA X ls (tFA w0 (tes c Z es))):
  PE X (.Call (.Name x np) ls [] pos) (tF w0 (te c Z (.call f es))):=by
 obtain⟨g1,g2,g3⟩:=G.gl hg
 obtain⟨E,ps,xk⟩:=G.exc
 cases hsp:c.Γ[f]? with
 | none=>
  have h1:=(Af.mp hf).1
  have h2:=List.getElem?_eq_none_iff.mp hsp
  rw[G.flen] at h1
  omega
 | some sp=>
  obtain⟨kk,fa,fd,pr,ds,dvs,dD,sp0,F,hr,hm,hk,hb,hd,hD,hsp0⟩:=G.fns hc f x sp hf hsp
  have key:∀σ H Q,tF w0 (te c Z (.call f es)) σ H Q→tFA w0 (tes c Z es) σ H fun vs H1=>spF X.K sp0 (vs++dvs) H1 Q E:=by
   rintro σ H Q ⟨w,σD,M,QD,S,g,a⟩
   refine⟨w,σD,M,_,S,g,fun vs w' ds' M' x' r' rd' q'=>?_⟩
   have q':sp ds' M' QD Z:=by
    have:=q'
    simp only[hsp] at this
    exact this
   have hKw:w'.K=X.K:=by rw[x'.K,S.K,G.eK]
   exact⟨w',ds'++dD,M',QD,Z,hKw,rfl,r',rd'.append (hD w' hKw),hsp0 _ _ _ _ q',a.ext x',fun cls dd H' hx=>xk cls dd H' (Gd (S.ext.trans x') hx)⟩
  cases ls with
  | nil=>
   refine PE.imp (Zg7 F hr g1 hm hk hb hd ps g2) fun σ H Q h=>?_
   have h2:=key σ H Q h
   obtain⟨w,σD,M,QD,S,g,a⟩:=h2
   cases es with
   | nil=>
    have:=a [] w [] M (Ext.refl w) S.rs (RDs.nil w) g
    rw[S.heap] at this
    exact this
   | cons e r=>exact absurd hs Bool.false_ne_true
  | cons l ls=>
   cases es with
   | nil=>exact absurd hs Bool.false_ne_true
   | cons e r=>
    change (_&&_)=true at hs
    simp only[Bool.and_eq_true] at hs
    exact PE.imp (Zu2 F hr g1 hm hk hb hd ps ih g2 (Zk hs.1.2) (Tc (Wb r ls hs.2))) key
theorem te_var{i:Nat}:te c Z (.var i) σ M Q=(match σ[i]? with | some (some d)=>Q d M | _=>False):=rfl
theorem te_glb:te c Z (.glb g) σ M Q=(match c.G[g]? with | some d=>Q d M | none=>False):=rfl
theorem Z66{i:Nat}{x:Str}(G:Good c k Z w0 X)(h1:k.N[i]?=some x)(h2:k.vis x=true):PE X (.Name x pos) (tF w0 (te c Z (.var i))):=by
 obtain⟨v1,v2,v3⟩:=G.vis h2
 refine PE.imp (Zd9 (i:=i) (by rw[G.N];exact h1) v1 v2 v3) fun σ H Q zz87=>?_
 obtain⟨w,σD,M,QD,S,g,a⟩:=zz87
 rw[te_var] at g
 split at g
 ·rename_i d e
  obtain⟨v,q1,q2⟩:=S.env.2 i d e
  have:=a v w d M (Ext.refl w) S.rs q2 g
  rw[S.heap] at this
  exact⟨v,q1,this⟩
 ·exact g.elim
theorem Zb7{x:Str}(G:Good c k Z w0 X)(h1:k.GN[g]?=some x)(h2:k.glob x=true):PE X (.Name x pos) (tF w0 (te c Z (.glb g))):=by
 obtain⟨g1,g2,g3⟩:=G.gl h2
 cases hd:c.G[g]? with
 | none=>
  refine PE.imp (t:=fun _ _ _=>False) (fun _ _ _ _ _ _ h=>h.elim) fun σ H Q zz88=>?_
  obtain⟨w,σD,M,QD,S,q,a⟩:=zz88
  rw[te_glb] at q
  rw[hd] at q
  exact q
 | some d=>
  obtain⟨v,u,q1,q2,q3⟩:=G.glb g x d h1 hd
  refine PE.imp (Zz1 g1 q1 q2 g2) fun σ H Q h=>Oi (d:=d) (fun w hw=>q3 w (by rw[hw,G.eK])) ?_
  obtain⟨w,σD,M,QD,S,q,a⟩:=h
  rw[te_glb] at q
  rw[hd] at q
  exact⟨w,σD,M,QD,S,q,a⟩
theorem Yh1(hs:V0 k es (l::ls)=true):starEach (l::ls) X.env=(false,eval l X.env)::starEach ls X.env∧(backTo pos (starEach ls X.env)).any (·.1)=false:=by
 cases es with
 | nil=>exact absurd hs Bool.false_ne_true
 | cons e r=>
  change (_&&_)=true at hs
  simp only[Bool.and_eq_true] at hs
  exact⟨Zk hs.1.2,Tc (Wb r ls hs.2)⟩
theorem Zl1{x:Str}(G:Good c k Z w0 X)(hc:k.calm=true∨Pe b=true)(hx:x=(bfOf b).1)(hg:k.glob x=true)(hB:x∈k.BN)(hs:V0 k es (l::ls)=true)(ih:PA X (l::ls) (tFA w0 (tes c Z es))):
  PE X (.Call (.Name x np) (l::ls) [] pos) (tF w0 (te c Z (.bf b es))):=by
 obtain⟨g1,g2,g3⟩:=G.gl hg
 have hm:=G.blt x hB
 have hb:bootBuiltins x=some (bfOf b).2:=by rw[hx];exact Zw7 b
 have snd:=Zk6 (w0:=w0) G.eK b (hc.imp G.calm id)
 have st:starEach (l::ls) X.env=(false,eval l X.env)::starEach ls X.env∧(backTo pos (starEach ls X.env)).any (·.1)=false:=by
  cases es with
  | nil=>exact absurd hs Bool.false_ne_true
  | cons e r=>
   change (_&&_)=true at hs
   simp only[Bool.and_eq_true] at hs
   exact⟨Zk hs.1.2,Tc (Wb r ls hs.2)⟩
 have key:∀σ H Q,tF w0 (te c Z (.bf b es)) σ H Q→tCB (rC w0 (bfD w0.K b)) (tFA w0 (tes c Z es)) σ H Q:=by
  rintro σ H Q ⟨w,σD,M,QD,S,g,a⟩
  refine⟨w,σD,M,_,S,g,fun vs w' ds M' x' r' rd' q'=>?_⟩
  rw[←G.wK] at q'
  exact⟨w',M',ds,QD,rfl,by rw[x'.K,S.K],r',rd',q',a.ext x'⟩
 cases hv:(bfOf b).2 with
 | builtin id=>
  rw[hv] at hb snd
  exact PE.imp (Zk2 snd g1 hm hb ih g3 g2 st.1 st.2) key
 | type T=>
  rw[hv] at hb snd
  exact PE.imp (Pj snd g1 hm hb ih g3 g2 st.1 st.2) key
 | _=>cases b<;>cases hv
theorem Zl5(G:Good c k Z w0 X)(hb:Z91 l=true)(hl:(ap.endLine==cp.line)=true)(hn:ls.length<30)(hs:V0 k es ls=true)(ho:PE X l (tF w0 (te c Z o)))(ih:PA X ls (tFA w0 (tes c Z es))):
  PE X (.Call (.Attribute l (mtN m) ap) ls [] cp) (tF w0 (te c Z (.mt m o es))):=by
 have snd:=Zi7 (w0:=w0) G.eK G.units m
 cases ls with
 | nil=>
  refine PE.imp (Yb8 (Ya8 m) (Ze5 m) (Ya9 m) snd ho (Gn hb) hl) fun σ H Q zz89=>?_
  obtain⟨w,σD,M,QD,S,g,a⟩:=zz89
  refine Yq S g fun x w1 dx M1 x1 r1 rx q1=>?_
  have ty:=Zr7 r1 rx q1.1
  rw[x1.K,S.K,←G.eK] at ty
  refine⟨ty,?_⟩
  cases es with
  | nil=>exact⟨w1,M1,dx,[],QD,rfl,by rw[x1.K,S.K],r1,rx,RDs.nil w1,q1.2,a.ext x1⟩
  | cons e r=>exact absurd hs Bool.false_ne_true
 | cons l' ls=>
  cases es with
  | nil=>exact absurd hs Bool.false_ne_true
  | cons e r=>
   have hs':=hs
   change (_&&_)=true at hs'
   simp only[Bool.and_eq_true] at hs'
   have few:((backTo cp (starEach (l'::ls) X.env)).all (fun x=> !x.1)&&(backToKw cp (keywordEach [] X.env)).all (fun x=>x.1.isSome)
     &&decide ((l'::ls).length+([]:List Keyword).length+(if ([]:List Keyword).isEmpty then 0 else 1)<30))=true:=by
    rw[Zp3 (Wb _ _ hs)]
    show(true&&true&&decide ((l'::ls).length+0+0<30))=true
    simpa using hn
   refine PE.imp (Yf1 (Ya8 m) (Ze5 m) (Ya9 m) snd ho ih (Gn hb) few hl (Zk hs'.1.2) (Tc (Wb r ls hs'.2))) fun σ H Q zz90=>?_
   obtain⟨w,σD,M,QD,S,g,a⟩:=zz90
   refine Yq S g fun x w1 dx M1 x1 r1 rx q1=>?_
   have ty:=Zr7 r1 rx q1.1
   rw[x1.K,S.K,←G.eK] at ty
   refine⟨ty,w1,σD,M1,_,S.next x1 r1,q1.2,fun vs w2 ds M2 x2 r2 rd2 q2=>?_⟩
   exact⟨w2,M2,dx,ds,QD,rfl,by rw[x2.K,x1.K,S.K],r2,rx.ext x2,rd2,q2,a.ext (x1.trans x2)⟩
theorem Zn7{a:E}{lo hi:Eo}{l:Expr}{x y:Option Expr}{p2 pos:Pos}(G:Good c k Z w0 X)(ha:PE X l (tF w0 (te c Z a)))(h1:PO X x (tFO w0 (teo c Z lo)))(h2:PO X y (tFO w0 (teo c Z hi))):
  PE X (.Subscript l (.Slice x y none p2) pos) (tF w0 (te c Z (.sl a lo hi))):=by
 refine PE.imp (Zp0 (Zg1 (w0:=w0) G.eK) ha h1 h2) fun σ H Q zz91=>?_
 obtain⟨w,σD,M,QD,S,g,aq⟩:=zz91
 refine Yq S g fun x w1 dx M1 x1 r1 rx q1=>?_
 refine⟨w1,σD,M1,_,S.next x1 r1,q1,fun l w2 M2 x2 r2 q2=>?_⟩
 refine⟨w2,σD,M2,_,(S.next x1 r1).next x2 r2,q2,fun h w3 M3 x3 r3 q3=>?_⟩
 exact⟨w3,M3,dx,QD,rfl,by rw[x3.K,x2.K,x1.K,S.K],r3,rx.ext (x2.trans x3),q3,aq.ext ((x1.trans x2).trans x3)⟩
theorem Z55{a b:E}(G:Good c k Z w0 X)(ha:PE X l (tF w0 (te c Z a)))(hb:PE X r (tF w0 (te c Z b))):PE X (.Dict [some l] [r] pos) (tF w0 (te c Z (.dct a b))):=by
 refine PE.imp (Zw5 (Zg3 ha hb Zt4) rfl rfl (by simp) (by simp)) fun σ H Q zz92=>?_
 obtain⟨w,σD,M,QD,S,g,aq⟩:=zz92
 intro p hp
 rw[←S.heap] at hp
 obtain⟨y1,y2,y3⟩:=Q8 (xs:=[]) (vs:=[]) S.rs hp (by unfold RKV;rfl)
 have hup:upd H p (.dK [])=(w.push p (.dK [])).H:=by rw[←S.heap];rfl
 have eμ:(w.push p (.dK [])).μ M.length=p:=by
  show(if M.length=w.n then p else w.μ M.length)=p
  rw[if_pos S.rs.len.symm]
 have ln:M.length< (w.push p (.dK [])).n:=by show M.length<w.n+1;rw[S.rs.len];omega
 rw[hup]
 refine Yq (S.next y1 y2) g fun x w1 dx M1 x1 r1 rx q1=>?_
 refine Yq ((S.next y1 y2).next x1 r1) q1 fun y w2 dy M2 x2 r2 ry q2=>?_
 obtain⟨kk,e1,e2,e3⟩:=q2
 obtain⟨hn,vs,u1,u2⟩:=r2.dict e2
 rw[(x1.trans x2).μ _ ln,eμ] at u1
 have ev:vs=[]:=by have:=u2.length;exact Ie.mp (by simpa using this)
 subst ev
 cases Pg e1 (rx.ext x2)
 refine⟨u1,[(kk,y)],rfl,by simp,?_⟩
 have u1':w2.H (w2.μ M.length)=some (.dK []):=by rw[(x1.trans x2).μ _ ln,eμ];exact u1
 obtain⟨t1,t2⟩:=Oh (vs:=[(kk,y)]) (xs:=[(kk,dy)]) r2 hn u1' (by
  have:=(show RKV w2 [] [] by unfold RKV;rfl).put (k:=kk) ry
  exact this)
 have rr:RD (w2.alloc (w2.μ M.length) (.dK [(kk,y)])) (.ref M.length) (.ref p):=(y3.ext (x1.trans x2)).ext t1
 have:=aq _ _ _ _ (((y1.trans x1).trans x2).trans t1) t2 rr e3
 have hf:(w2.alloc (w2.μ M.length) (.dK [(kk,y)])).H=upd w2.H p (.dK (Oj [] [(kk,y)])):=by
  show upd w2.H (w2.μ M.length) (.dK [(kk,y)])=_
  rw[(x1.trans x2).μ _ ln,eμ]
  rfl
 rw[←hf]
 exact this
theorem Z08{a:E}{x y:Str}(G:Good c k Z w0 X)(hc:k.calm=true)(hx:x=("list":Str))(hy:y=("reversed":Str))(hg:k.glob x=true)(hg':k.glob y=true)(hB:x∈k.BN)(hB':y∈k.BN)(hl:noStar l=true)(ih:PE X l (tF w0 (te c Z a))):
  PE X (.Call (.Name x p1) [.Call (.Name y p2) [l] [] q2] [] q1) (tF w0 (te c Z (.lrev a))):=by
 obtain⟨g1,g2,g3⟩:=G.gl hg
 obtain⟨g1',g2',g3'⟩:=G.gl hg'
 have hset:=Pj (p:=p2) (pos:=q2) (Zk7 (X:=X)) g1' (G.blt _ hB') (by rw[hy];exact Nv) (Wq ih Qs (Zk hl)) g3' g2' (Zk hl) rfl
 refine PE.imp (Pj (Bq (X:=X) (G.calm hc)) g1 (G.blt _ hB) (by rw[hx];exact boot_list) (Wq hset Qs rfl) g3 g2 rfl rfl) fun σ H Q zz93=>?_
 obtain⟨w,σD,M,QD,S,g,aq⟩:=zz93
 refine Yq S g fun x w1 dx M1 x1 r1 rx q1=>?_
 obtain⟨n,rfl,q1⟩:=W8 q1
 obtain⟨hn,rfl⟩:=Y1.mp rx
 obtain⟨xs,e1,q⟩:=q1
 have hK:w1.K=X.K:=by rw[x1.K,S.K,G.eK]
 obtain⟨_,vs,z1,z2,_⟩:=r1.listL e1
 rw[hK] at z1
 refine⟨_,vs,rfl,z1,fun p hp hlp=>?_⟩
 refine⟨p,w1.μ n,vs,rfl,Zs,?_,fun t ht=>?_⟩
 ·rcases z1 with(z1 | ⟨o,z1⟩) | z1
  ·exact .inl (.inl (by rw[Za hlp];exact z1))
  ·exact .inl (.inr ⟨o,by rw[Za hlp];exact z1⟩)
  ·exact .inr z1
 ·have hd:del (upd w1.H p (.ext (Et X.s₀.heap.objs.size p (w1.μ n) vs.length))) p=w1.H:=by
   funext b
   unfold del
   split
   ·rename_i e;rw[e];exact hp.symm
   ·rename_i e;exact Za e
  have ht':w1.H t=none:=by
   by_cases e:t=p
   ·rw[e];exact hp
   ·rw[Za e] at ht;exact ht
  rw[hd]
  obtain⟨y1,y2,y3⟩:=T9 r1 ht' z2.reverse
  exact aq _ _ _ _ (x1.trans y1) y2 y3 q
theorem Zg8{a b:E}(G:Good c k Z w0 X)(hn:Fw r=true)(ha:PE X l (tF w0 (te c Z a)))(hb:PE X r (tF w0 (te c Z b))):PE X (.Subscript l r pos) (tF w0 (te c Z (.ix a b))):=by
 have pl:Zf0 r:=by
  intro o i
  cases r<;>first | rfl | cases hn
 refine PE.imp (Ye7 (Zh0 (w0:=w0) G.eK G.units) ha hb pl) fun σ H Q zz94=>?_
 obtain⟨w,σD,M,QD,S,g,aq⟩:=zz94
 refine Yq S g fun x w1 dx M1 x1 r1 rx q1=>?_
 refine Yq (S.next x1 r1) q1 fun y w2 dy M2 x2 r2 ry q2=>?_
 exact⟨w2,M2,dx,dy,_,rfl,by rw[x2.K,x1.K,S.K],r2,rx.ext x2,ry,q2,fun d v hq hr=>aq v w2 d M2 (x1.trans x2) r2 hr hq⟩
theorem O8{el t iter:Expr}(G:Good c k Z w0 X)(hc:k.calm=true)(ho:S7 k.sc k.N N' js scope=true)(hns:Z12 iter=true)(hn:N'.Nodup)
  (hi:PI X t iter (iF w0 (tit c Z it))) (ht:O3 {k with N:=N',sc:=Vb scope k.sc,cells:=false,own:=Fo scope,tries:=false,raises:=[]} tg t=true) (hd:chkC {k with N:=N',sc:=Vb scope k.sc,cells:=false,own:=Fo scope,tries:=false,raises:=[]} cd ifs=true) (he:chkE {k with N:=N',sc:=Vb scope k.sc,cells:=false,own:=Fo scope,tries:=false,raises:=[]} e el=true) (ihe:Zp8 c e) (ihd:Zr6 c cd):
  PE X (.ListComp el [⟨t,iter,ifs,0⟩] scope pos) (tF w0 (te c Z (.comp N' js tg it cd e)))∧
  ∀(i:Nat) (x:Str) (px spos:Pos),X.N[i]?=some x→X.env.scope.names.lookup x=some .local→swapsWith (.ListComp el [⟨t,iter,ifs,0⟩] scope pos) (some (.Name x px)) spos.line X.env=pure true→
   PS X (.Assign [.Name x px] (.ListComp el [⟨t,iter,ifs,0⟩] scope pos) spos) (fun R σ H=>tF w0 (te c Z (.comp N' js tg it cd e)) σ H fun v H1=>R.nx (σ.set i (some v)) H1):=by
 have ho':S7 X.env.scope X.N N' js scope=true:=by rw[G.sc,G.N];exact ho
 have hf:∀x,foldedSetIterable iter X.env x=pure x:=by
  intro x
  cases iter<;>first | rfl | cases hns
 have hg:=fun cl C fp pins s H=>(Good.block G hc (scope:=scope) hn cl C fp pins s H).tgt tg t ht
 have hel:=fun cl C fp pins s H=>(ihe _ _ _ _ el (Good.block G hc (scope:=scope) hn cl C fp pins s H) he).1
 have key:∀σ H Q,tF w0 (te c Z (.comp N' js tg it cd e)) σ H Q→iF w0 (tit c Z it) σ H fun J H1=>∀p,H1 p=none→∃W:Nat→Nat→L2.St→Hp→Prop,(∃m,W 0 m (Sw js σ) (upd H1 p (.lst [])))∧
   ∀i m σc Hc,W i m σc Hc→(J.stop i Hc∧Q (.ref p) Hc)∨(J.go i Hc∧∀x H',J.yld i Hc x H'→gF w0 tg x σc H' fun σ2 H2=>tFT w0 (tcd c noX cd) σ2 H2 fun b H3=>if b=true then tF w0 (te c noX e) σ2 H3 fun y H4=>∃acc,H4 p=some (.lst acc)∧acc.length<sizeLine∧
    ∃m',m'<m∧W (i+1) m' σ2 (upd H4 p (.lst (acc++[y]))) else ∃m',m'<m∧W (i+1) m' σ2 H3):=by
  rintro σ H Q ⟨w,σD,M,QD,S,g,a⟩
  refine⟨w,σD,M,_,S,g,fun J w1 own xs M1 x1 R1 jk q1=>?_⟩
  exact Zn8 (S.ext.trans x1) rfl R1 (Zx7 (S.env.ext x1)) jk q1 fun v w2 d M2 x2 r2 rd2 zz95=>by obtain⟨e2,q2⟩:=zz95;exact a v w2 d M2 (x1.trans x2) r2 rd2 (by rw[e2];exact q2)
 have nocd:∀{σ:L2.St} {H:Hp} {P:Bool→Hp→Prop},cd= .no→tFT w0 (tcd c noX cd) σ H P→P true H:=by
  intro σ H P e h
  subst e
  obtain⟨w,σD,M,QD,S,g,a⟩:=h
  have:=a true w M (Ext.refl w) S.rs g
  rw[S.heap] at this
  exact this
 cases ifs with
 | nil=>
  have hcd:cd= .no:=by
   cases cd with
   | no=>rfl
   | yes e'=>exact absurd hd Bool.false_ne_true
  have key0:∀σ H Q,tF w0 (te c Z (.comp N' js tg it cd e)) σ H Q→Z72 js (iF w0 (tit c Z it)) (gF w0 tg) (tF w0 (te c noX e)) σ H Q:=by
   intro σ H Q h
   obtain⟨w,σD,M,QD,S,g,a⟩:=key σ H Q h
   refine⟨w,σD,M,QD,S,g,fun J w' own xs M' x' r' jk q p hp=>?_⟩
   obtain⟨W,w1,w2⟩:=a J w' own xs M' x' r' jk q p hp
   refine⟨W,w1,fun i m σc Hc hW=>(w2 i m σc Hc hW).imp id fun⟨z1,z2⟩=>⟨z1,fun x H' hy=>?_⟩⟩
   obtain⟨v1,v2,v3,v4,v5,v6,v7,v8,v9⟩:=z2 x H' hy
   refine⟨v1,v2,v3,v4,v5,v6,v7,v8,fun σ' σD' en q'=>?_⟩
   have:=nocd hcd (v9 σ' σD' en q')
   rw[if_pos rfl] at this
   exact this
  exact⟨PE.imp (Zf9 (G.calm hc) ho' hi hg hel hf) key0,fun i x px spos h1 h2 h3=>PS.imp (Zo5 (G.calm hc) ho' G.nd h1 h2 hi hg hel h3 hf) fun R σ H h=>key0 σ H _ h⟩
 | cons x0 ifs=>
  have hq:∀cl C fp pins s H,∃x,x0::ifs=[x]∧PT (cxC X N' scope cl C fp pins s H) x (tFT w0 (tcd c noX cd)):=fun cl C fp pins s H=>by
   rcases ihd.2 _ _ _ _ (x0::ifs) (Good.block G hc (scope:=scope) hn cl C fp pins s H) hd with h | ⟨h,_⟩
   ·exact h
   ·cases h
  have e0:ifs=[]:=by
   cases cd with
   | no=>exact absurd hd Bool.false_ne_true
   | yes e'=>
    cases ifs with
    | nil=>rfl
    | cons _ _=>exact absurd hd Bool.false_ne_true
  subst e0
  have hq':∀cl C fp pins s H,PT (cxC X N' scope cl C fp pins s H) x0 (tFT w0 (tcd c noX cd)):=fun cl C fp pins s H=>by
   obtain⟨x,h1,h2⟩:=hq cl C fp pins s H
   cases h1
   exact h2
  exact⟨PE.imp (Zk3 (G.calm hc) ho' hi hg hq' hel hf) key,fun i x px spos h1 h2 h3=>PS.imp (Zm7 (G.calm hc) ho' G.nd h1 h2 hi hg hq' hel h3 hf) fun R σ H h=>key σ H _ h⟩
end
section
variable{c:Cfg}{k:Ck}{Z:DX}{w0:Vw}{X:Cx}
theorem te_cmp_bl{a b:E}(σD:DEnv)(M:Z3)(QD:DK)(h:te c Z (.cmp op a b) σD M QD):te c Z (.cmp op a b) σD M fun d M'=>(∃b,d= .bl b)∧QD d M':=by
 have e:(fun(d:D) (M':Z3)=>QD d M')=QD:=rfl
 show te c Z a σD M fun x M1=>te c Z b σD M1 fun y M2=>cmD M2 op x y fun r=>(∃b,D.bl r= .bl b)∧QD (.bl r) M2
 have h:te c Z a σD M (fun x M1=>te c Z b σD M1 fun y M2=>cmD M2 op x y fun r=>QD (.bl r) M2):=h
 have:(fun(x:D) (M1:Z3)=>te c Z b σD M1 fun y M2=>cmD M2 op x y fun r=>QD (.bl r) M2)=fun x M1=>te c Z b σD M1 fun y M2=>cmD M2 op x y fun r=>(∃b,D.bl r= .bl b)∧QD (.bl r) M2:=by
  funext x M1
  congr 1
  funext y M2
  congr 1
  funext r
  exact propext ⟨fun h=>⟨⟨r,rfl⟩,h⟩,fun h=>h.2⟩
 rw[this] at h
 exact h
theorem Y20{a b:Expr}{rest:List Expr}(ha:PE X a ta)(hb:PE X (.BoolOp .And (b::rest) pos) tb):PE X (.BoolOp .And (a::b::rest) pos) (fun σ H Q=>ta σ H fun x H1=>∃z,TruV X.K x H1 z∧if z=true then tb σ H1 Q else Q x H1):=by
 intro pins s σ H Q I h
 refine BoolOp_and (thn (ha pins s σ H _ I h) fun v s1 zz97=>?_)
 obtain⟨x,H1,I1,r1,q1⟩:=zz97
 refine thn (Co pins s1 σ H1 x v (fun z H2=>if z=true then tb σ H2 Q else Q x H2) I1 r1 q1) fun z s2 zz98=>?_
 obtain⟨H2,I2,q2⟩:=zz98
 cases z with
 | true=>exact hb pins s2 σ H2 Q I2 (by rw[if_pos rfl] at q2;exact q2)
 | false=>exact⟨x,H2,I2,r1,by rw[if_neg Bool.false_ne_true] at q2;exact q2⟩
theorem Yb2{a b:Expr}{rest:List Expr}(ha:PE X a ta)(hb:PE X (.BoolOp .Or (b::rest) pos) tb):PE X (.BoolOp .Or (a::b::rest) pos) (fun σ H Q=>ta σ H fun x H1=>∃z,TruV X.K x H1 z∧if z=true then Q x H1 else tb σ H1 Q):=by
 intro pins s σ H Q I h
 refine BoolOp_or (thn (ha pins s σ H _ I h) fun v s1 zz99=>?_)
 obtain⟨x,H1,I1,r1,q1⟩:=zz99
 refine thn (Co pins s1 σ H1 x v (fun z H2=>if z=true then Q x H2 else tb σ H2 Q) I1 r1 q1) fun z s2 zz100=>?_
 obtain⟨H2,I2,q2⟩:=zz100
 cases z with
 | false=>exact hb pins s2 σ H2 Q I2 (by rw[if_neg Bool.false_ne_true] at q2;exact q2)
 | true=>exact⟨x,H2,I2,r1,by rw[if_pos rfl] at q2;exact q2⟩
theorem Ga{n:Nat}(h1:Zo M n=some xs)(h2:Zq M n=some ys):False:=by
 unfold Zo at h1
 unfold Zq at h2
 cases h:M[n]? with
 | none=>rw[h] at h2;cases h2
 | some c=>rw[h] at h1 h2;cases c<;>simp at h1 h2
theorem Cu{x:D}{k:Bool}:truD M x (fun b=>if b=k then A else truD M x P)=truD M x (fun b=>if b=k then A else P b):=by
 cases x with
 | str y=>
  apply propext
  show(y.length≤sizeLine∧if ((y.length:Int) !=0)=k then A else(y.length≤sizeLine∧P ((y.length:Int) !=0)))↔(y.length≤sizeLine∧if ((y.length:Int) !=0)=k then A else P ((y.length:Int) !=0))
  split<;>simp (config:={contextual:=true})
 | ref n=>
  apply propext
  have key:∀Q:Bool→Prop,truD M (.ref n) Q↔(∃xs,Zo M n=some xs∧Q (!xs.isEmpty))∨(∃xs,Zq M n=some xs∧Q (!xs.isEmpty)):=fun Q=>Lu
  constructor
  ·intro h
   rcases(key _).mp h with⟨xs,h1,h2⟩ | ⟨xs,h1,h2⟩
   ·refine(key _).mpr (.inl ⟨xs,h1,?_⟩)
    split at h2
    ·rename_i e;rw[if_pos e];exact h2
    ·rename_i e
     rw[if_neg e]
     rcases(key _).mp h2 with⟨ys,g1,g2⟩ | ⟨ys,g1,g2⟩
     ·rw[h1] at g1;cases g1;exact g2
     ·exact(Ga h1 g1).elim
   ·refine(key _).mpr (.inr ⟨xs,h1,?_⟩)
    split at h2
    ·rename_i e;rw[if_pos e];exact h2
    ·rename_i e
     rw[if_neg e]
     rcases(key _).mp h2 with⟨ys,g1,g2⟩ | ⟨ys,g1,g2⟩
     ·exact(Ga g1 h1).elim
     ·rw[h1] at g1;cases g1;exact g2
  ·intro h
   rcases(key _).mp h with⟨xs,h1,h2⟩ | ⟨xs,h1,h2⟩
   ·refine(key _).mpr (.inl ⟨xs,h1,?_⟩)
    split at h2
    ·rename_i e;rw[if_pos e];exact h2
    ·rename_i e;rw[if_neg e];exact(key _).mpr (.inl ⟨xs,h1,h2⟩)
   ·refine(key _).mpr (.inr ⟨xs,h1,?_⟩)
    split at h2
    ·rename_i e;rw[if_pos e];exact h2
    ·rename_i e;rw[if_neg e];exact(key _).mpr (.inr ⟨xs,h1,h2⟩)
 | non=>rfl
 | bl b=>rfl
 | int i=>rfl
 | tup xs=>rfl
 | _=>rfl
theorem te_bop_tt(h:ttD (tbop c Z true (.cons e (.cons e2 r))) σD M QD):
  ttD (te c Z e) σD M fun z M1=>if z=true then ttD (tbop c Z true (.cons e2 r)) σD M1 QD else QD false M1:=by
 have hh:(fun(x:D) (M1:Z3)=>truD M1 x fun b=>if b=true then ttD (tbop c Z true (.cons e2 r)) σD M1 QD else truD M1 x fun b=>QD b M1)=
   fun x M1=>truD M1 x fun z=>if z=true then ttD (tbop c Z true (.cons e2 r)) σD M1 QD else QD false M1:=by
  funext x M1
  rw[Cu]
  congr 1
  funext b
  cases b<;>rfl
 have h':te c Z e σD M fun(x:D) (M1:Z3)=>truD M1 x fun b=>if b=true then ttD (tbop c Z true (.cons e2 r)) σD M1 QD else truD M1 x fun b=>QD b M1:=h
 rw[hh] at h'
 exact h'
theorem te_bop_ff(h:ttD (tbop c Z false (.cons e (.cons e2 r))) σD M QD):
  ttD (te c Z e) σD M fun z M1=>if z=true then QD true M1 else ttD (tbop c Z false (.cons e2 r)) σD M1 QD:=by
 have hh:(fun(x:D) (M1:Z3)=>truD M1 x fun b=>if b=false then ttD (tbop c Z false (.cons e2 r)) σD M1 QD else truD M1 x fun b=>QD b M1)=
   fun x M1=>truD M1 x fun z=>if z=true then QD true M1 else ttD (tbop c Z false (.cons e2 r)) σD M1 QD:=by
  funext x M1
  rw[Cu]
  congr 1
  funext b
  cases b<;>rfl
 have h':te c Z e σD M fun(x:D) (M1:Z3)=>truD M1 x fun b=>if b=false then ttD (tbop c Z false (.cons e2 r)) σD M1 QD else truD M1 x fun b=>QD b M1:=h
 rw[hh] at h'
 exact h'
end
theorem Z04{k:Ck}{a:E}(h:chkE k (.lrev a) ex=true):∃x y l p1 p2 q1 q2,ex= .Call (.Name x p1) [.Call (.Name y p2) [l] [] q2] [] q1∧
  (k.calm&&x==("list":Str)&&y==("reversed":Str)&&k.glob x&&k.glob y&&k.BN.contains x&&k.BN.contains y&&noStar l&&chkE k a l)=true:=by
 cases ex with
 | Call fn as kws q1=>
  cases fn with
  | Name x p1=>
   cases as with
   | nil=>exact absurd h Bool.false_ne_true
   | cons a0 as=>
   cases a0 with
   | Call fn2 as2 kws2 q2=>
    cases fn2 with
    | Name y p2=>
     cases as2 with
     | nil=>exact absurd h Bool.false_ne_true
     | cons l ls=>
     cases ls with
     | cons _ _=>exact absurd h Bool.false_ne_true
     | nil=>
     cases kws2 with
     | cons _ _=>exact absurd h Bool.false_ne_true
     | nil=>
     cases as with
     | cons _ _=>exact absurd h Bool.false_ne_true
     | nil=>
     cases kws with
     | cons _ _=>exact absurd h Bool.false_ne_true
     | nil=>exact⟨x,y,l,p1,p2,q1,q2,rfl,h⟩
    | _=>exact absurd h Bool.false_ne_true
   | _=>exact absurd h Bool.false_ne_true
  | _=>exact absurd h Bool.false_ne_true
 | _=>exact absurd h Bool.false_ne_true
theorem Z47{k:Ck}(h:Zh5 k (.zip es) ex=true):∃l ls p q,ex= .Call (.Name "zip" p) (l::ls) [] q∧(k.glob "zip"&&k.BN.contains "zip"&&V0 k es (l::ls))=true:=by
 obtain⟨fn,ls,kws,pos,rfl,h⟩:=Xh h
 obtain⟨x,np,rfl,h⟩:=Yy h
 obtain⟨rfl,h⟩:=W9 h
 obtain⟨l,ls,rfl,h⟩:=Ph h
 change (_&&_)=true at h
 simp only[Bool.and_eq_true,beq_iff_eq] at h
 obtain⟨⟨⟨rfl,h1⟩,h2⟩,h3⟩:=h
 refine⟨l,ls,_,_,rfl,?_⟩
 simp only[Bool.and_eq_true]
 exact⟨⟨h1,h2⟩,h3⟩
mutual
theorem Zx(c:Cfg):∀e:E,Zp8 c e
 | .var i,k,Z,w0,X,ex,G,h=>by
  obtain⟨x,pos,rfl,h⟩:=Yy h
  change (_&&_)=true at h
  simp only[Bool.and_eq_true,beq_iff_eq] at h
  exact both G (Z66 G h.1 h.2) fun _=>rfl
 | .int i,k,Z,w0,X,ex,G,h=>by
  obtain⟨v,j,pos,rfl,h⟩:=V7 h
  cases v with
  | int m=>
   have h:(i==m)=true:=h
   simp only[beq_iff_eq] at h
   subst h
   exact both G (PE.imp Y76 fun σ H Q q=>Oi (fun _ _=>Zj.mpr rfl) q) fun _=>rfl
  | _=>exact absurd h Bool.false_ne_true
 | .bl i,k,Z,w0,X,ex,G,h=>by
  obtain⟨v,j,pos,rfl,h⟩:=V7 h
  cases v with
  | bool m=>
   have h:(i==m)=true:=h
   simp only[beq_iff_eq] at h
   subst h
   exact both G (PE.imp Yg6 fun σ H Q q=>Oi (fun _ _=>Ww.mpr rfl) q) fun _=>rfl
  | _=>exact absurd h Bool.false_ne_true
 | .non,k,Z,w0,X,ex,G,h=>by
  obtain⟨v,j,pos,rfl,h⟩:=V7 h
  cases v with
  | none=>exact both G (PE.imp Y44 fun σ H Q q=>Oi (fun _ _=>Xv.mpr rfl) q) fun _=>rfl
  | _=>exact absurd h Bool.false_ne_true
 | .str i,k,Z,w0,X,ex,G,h=>by
  obtain⟨v,j,pos,rfl,h⟩:=V7 h
  cases v with
  | str m=>
   have h:(i==m)=true:=h
   simp only[beq_iff_eq] at h
   subst h
   exact both G (PE.imp Y68 fun σ H Q q=>Oi (fun _ _=>Yg.mpr rfl) q) fun _=>rfl
  | _=>exact absurd h Bool.false_ne_true
 | .ty t,k,Z,w0,X,ex,G,h=>by
  obtain⟨x,pos,rfl,h⟩:=Yy h
  change (_&&_)=true at h
  simp only[Bool.and_eq_true,beq_iff_eq,Dz] at h
  obtain⟨g1,g2,g3⟩:=G.gl h.1.2
  exact both G (PE.imp (Zw1 (v:= .ty (Xp t)) g1 (G.blt x h.2) (by rw[h.1.1];exact Zz9 t) rfl g3 g2) fun σ H Q q=>Oi (fun _ _=>Zy5.mpr rfl) q) fun _=>rfl
 | .glb g,k,Z,w0,X,ex,G,h=>by
  obtain⟨x,pos,rfl,h⟩:=Yy h
  change (_&&_)=true at h
  simp only[Bool.and_eq_true,beq_iff_eq] at h
  exact both G (Zb7 G h.1 h.2) fun _=>rfl
 | .bin op a b,k,Z,w0,X,ex,G,h=>by
  obtain⟨l,o,r,pos,rfl,h⟩:=Z85 h
  change (_&&_)=true at h
  simp only[Bool.and_eq_true,beq_iff_eq] at h
  obtain⟨⟨rfl,h1⟩,h2⟩:=h
  exact both G (PE.imp (Yf0 (Zj1 (w0:=w0) op) (Zx c a k Z w0 X l G h1).1 (Zx c b k Z w0 X r G h2).1) fun σ H Q q=>Z70 q) fun _=>rfl
 | .neg a,k,Z,w0,X,ex,G,h=>by
  obtain⟨o,l,pos,rfl,h⟩:=Cj h
  change (_&&_)=true at h
  simp only[Bool.and_eq_true,beq_iff_eq] at h
  obtain⟨rfl,h1⟩:=h
  refine both G (PE.imp (Yd2 Y90 (Zx c a k Z w0 X l G h1).1) fun σ H Q zz101=>?_) fun _=>rfl
  obtain⟨w,σD,M,QD,S,g,aq⟩:=zz101
  refine Yq S g fun x w1 dx M1 x1 r1 rx q1=>?_
  split at q1
  ·cases Zj.mp rx
   exact⟨_,rfl,aq _ w1 _ M1 x1 r1 (Zj.mpr rfl) q1⟩
  ·exact q1.elim
 | .not a,k,Z,w0,X,ex,G,h=>by
  obtain⟨o,l,pos,rfl,h⟩:=Cj h
  change (_&&_)=true at h
  simp only[Bool.and_eq_true,beq_iff_eq] at h
  obtain⟨rfl,h1⟩:=h
  obtain⟨i1,i2⟩:=Zx c a k Z w0 X l G h1
  refine⟨PE.imp (Zz2 i1) fun σ H Q ⟨w,σD,M,QD,S,g,aq⟩=>?_,fun hn=>PT.imp (Y74 (i2 hn)) fun σ H Q ⟨w,σD,M,QD,S,g,aq⟩=>?_⟩
  ·refine Yq S g fun x w1 dx M1 x1 r1 rx q1=>?_
   obtain⟨b,t1,t2⟩:=Sg (K:=X.K) (by rw[x1.K,S.K,G.eK]) r1 rx q1
   exact⟨b,t1,aq _ w1 _ M1 x1 r1 (Ww.mpr rfl) t2⟩
  ·exact⟨w,σD,M,fun b M1=>QD (!b) M1,S,g,fun b w' M' x' r' q'=>aq _ w' M' x' r' q'⟩
 | .cmp op a b,k,Z,w0,X,ex,G,h=>by
  obtain⟨l,os,rs,pos,rfl,h⟩:=Zc8 h
  obtain⟨o,rfl,h⟩:=Wr h
  obtain⟨r,rfl,h⟩:=Wr h
  change (_&&_)=true at h
  simp only[Bool.and_eq_true,beq_iff_eq] at h
  obtain⟨⟨⟨rfl,h0⟩,h1⟩,h2⟩:=h
  have hm:behindInMarks (cmOf op) r=false:=by
   cases r with
   | Set es kk p=>cases op<;>first | (simp[isIn,Z12] at h0;done) | (simp[behindInMarks,cmOf])
   | _=>rfl
  have ia:=(Zx c a k Z w0 X l G h1).1
  have ib:=(Zx c b k Z w0 X r G h2).1
  refine⟨PE.imp (Y28 (C5 (w0:=w0) G.eK G.units op) ia ib hm) fun σ H Q q=>Gb q,fun _=>Zu9 (PT.imp (Zw4 (C5 (w0:=w0) G.eK G.units op) ia ib hm) fun σ H Q q=>Gb q) te_cmp_bl⟩
 | .bop b es,k,Z,w0,X,ex,G,h=>by
  obtain⟨o,ls,pos,rfl,h⟩:=Z24 h
  change (_&&_)=true at h
  simp only[Bool.and_eq_true,beq_iff_eq] at h
  obtain⟨rfl,h⟩:=h
  cases b with
  | true=>
   obtain⟨i1,i2⟩:=(Wd c es k Z w0 X ls G h).2 true pos
   exact⟨i1,fun hn=>(i2 hn).pt⟩
  | false=>
   obtain⟨i1,i2⟩:=(Wd c es k Z w0 X ls G h).2 false pos
   exact⟨i1,fun hn=>(i2 hn).pt⟩
 | .ife t a b,k,Z,w0,X,ex,G,h=>by
  obtain⟨x,l,r,pos,rfl,h⟩:=Zj9 h
  change (_&&_)=true at h
  simp only[Bool.and_eq_true] at h
  refine⟨PE.imp (Zo3 ((Zx c t k Z w0 X x G h.1.1.1).2 h.2) (Zx c a k Z w0 X l G h.1.1.2).1 (Zx c b k Z w0 X r G h.1.2).1) fun σ H Q zz104=>?_,fun hn=>by simp[noIf] at hn⟩
  obtain⟨w,σD,M,QD,S,g,aq⟩:=zz104
  refine⟨w,σD,M,fun r M1=>if r=true then te c Z a σD M1 QD else te c Z b σD M1 QD,S,g,fun r w1 M1 x1 r1 q1=>?_⟩
  cases r with
  | true=>rw[if_pos rfl] at q1 ⊢;exact Yq (S.next x1 r1) q1 (aq.ext x1)
  | false=>rw[if_neg Bool.false_ne_true] at q1 ⊢;exact Yq (S.next x1 r1) q1 (aq.ext x1)
 | .lst es,k,Z,w0,X,ex,G,h=>by
  obtain⟨ls,pos,rfl,h⟩:=Z67 h
  refine both G (PE.imp (Yb0 (Wd c es k Z w0 X ls G h).1) fun σ H Q zz105=>?_) fun _=>rfl
  obtain⟨w,σD,M,QD,S,g,aq⟩:=zz105
  refine⟨w,σD,M,_,S,g,fun vs w1 ds M1 x1 r1 rd1 q1=>⟨by rw[rd1.length];exact q1.1,fun p hp=>?_⟩⟩
  obtain⟨y1,y2,y3⟩:=T9 r1 hp rd1
  exact aq _ _ _ _ (x1.trans y1) y2 y3 q1.2
 | .tup es,k,Z,w0,X,ex,G,h=>by
  obtain⟨ls,kk,pos,rfl,h⟩:=Jr h
  refine both G (PE.imp (Y80 (Wd c es k Z w0 X ls G h).1) fun σ H Q zz106=>?_) fun _=>rfl
  obtain⟨w,σD,M,QD,S,g,aq⟩:=zz106
  refine⟨w,σD,M,_,S,g,fun vs w1 ds M1 x1 r1 rd1 q1=>⟨by rw[rd1.length];exact q1.1,fun p hp=>?_⟩⟩
  obtain⟨y1,y2,y3⟩:=Sy r1 hp rd1
  exact aq _ _ _ _ (x1.trans y1) y2 y3 q1.2
 | .dict0,k,Z,w0,X,ex,G,h=>by
  obtain⟨ks,vs,pos,rfl,h⟩:=Gx h
  obtain⟨rfl,h⟩:=W9 h
  obtain⟨rfl,_⟩:=W9 h
  refine both G (PE.imp Zn9 fun σ H Q zz107=>?_) fun _=>rfl
  obtain⟨w,σD,M,QD,S,g,aq⟩:=zz107
  intro p hp
  rw[←S.heap] at hp
  obtain⟨y1,y2,y3⟩:=Q8 (xs:=[]) (vs:=[]) S.rs hp (by unfold RKV;rfl)
  have:=aq _ _ _ _ y1 y2 y3 g
  rw[←S.heap]
  exact this
 | .dictT,k,Z,w0,X,ex,G,h=>by
  cases ex with
  | Dict ks vs pos=>
   match ks,vs,h with
   | [],[],h=>
    refine both G (PE.imp Zf8 fun σ H Q zz108=>?_) fun _=>rfl
    obtain⟨w,σD,M,QD,S,g,aq⟩:=zz108
    intro p hp
    rw[←S.heap] at hp
    obtain⟨y1,y2,y3⟩:=Za8 (xs:=[]) (vs:=[]) S.rs hp (by unfold RKV;rfl)
    have:=aq _ _ _ _ y1 y2 y3 g
    rw[←S.heap]
    exact this
   | [],_::_,h=>exact absurd h Bool.false_ne_true
   | _::_,_,h=>exact absurd h Bool.false_ne_true
  | _=>exact absurd h Bool.false_ne_true
 | .dct a b,k,Z,w0,X,ex,G,h=>by
  obtain⟨ks,vs,pos,rfl,h⟩:=Gx h
  obtain⟨q,rfl,h⟩:=Wr h
  obtain⟨l,rfl,h⟩:=Y16 h
  obtain⟨r,rfl,h2⟩:=Wr h
  change (_&&_)=true at h2
  rw[Bool.and_eq_true] at h2
  exact both G (Z55 G (Zx c a k Z w0 X l G h2.1).1 (Zx c b k Z w0 X r G h2.2).1) fun _=>rfl
 | .ix a b,k,Z,w0,X,ex,G,h=>by
  obtain⟨l,r,pos,rfl,h⟩:=Gm h
  change (_&&_)=true at h
  simp only[Bool.and_eq_true] at h
  exact both G (Zg8 G h.1.1 (Zx c a k Z w0 X l G h.1.2).1 (Zx c b k Z w0 X r G h.2).1) fun _=>rfl
 | .sl a lo hi,k,Z,w0,X,ex,G,h=>by
  obtain⟨l,r,pos,rfl,h⟩:=Gm h
  obtain⟨x,y,z,p2,rfl,h⟩:=Za6 h
  obtain⟨rfl,h⟩:=Zx3 h
  change (_&&_)=true at h
  simp only[Bool.and_eq_true] at h
  exact both G (Zn7 G (Zx c a k Z w0 X l G h.1.1).1 ((Ey c lo).1 k Z w0 X x G h.1.2) ((Ey c hi).1 k Z w0 X y G h.2)) fun _=>rfl
 | .lrev a,k,Z,w0,X,ex,G,h=>by
  obtain⟨x,y,l,p1,p2,q1,q2,rfl,hs⟩:=Z04 h
  simp only[Bool.and_eq_true,beq_iff_eq,Dz] at hs
  obtain⟨⟨⟨⟨⟨⟨⟨⟨h1,h2⟩,h3⟩,h4⟩,h5⟩,h6⟩,h7⟩,h8⟩,h9⟩:=hs
  exact both G (Z08 G h1 h2 h3 h4 h5 h6 h7 h8 (Zx c a k Z w0 X l G h9).1) fun _=>rfl
 | .call f es,k,Z,w0,X,ex,G,h=>by
  obtain⟨fn,ls,kws,pos,rfl,h⟩:=Xh h
  obtain⟨x,np,rfl,h⟩:=Yy h
  obtain⟨rfl,h⟩:=W9 h
  change (_&&_)=true at h
  simp only[Bool.and_eq_true,beq_iff_eq] at h
  exact both G (Z43 G h.1.1.1 h.1.1.2 h.1.2 h.2 (Wd c es k Z w0 X ls G h.2).1) fun _=>rfl
 | .bf b es,k,Z,w0,X,ex,G,h=>by
  obtain⟨fn,ls,kws,pos,rfl,h⟩:=Xh h
  obtain⟨x,np,rfl,h⟩:=Yy h
  obtain⟨rfl,h⟩:=W9 h
  obtain⟨l,ls,rfl,h⟩:=Ph h
  change (_&&_)=true at h
  simp only[Bool.and_eq_true,beq_iff_eq,Bool.or_eq_true,Dz] at h
  exact both G (Zl1 G h.1.1.1.1 h.1.1.1.2 h.1.1.2 h.1.2 h.2 (Wd c es k Z w0 X (l::ls) G h.2).1) fun _=>rfl
 | .mt m o es,k,Z,w0,X,ex,G,h=>by
  obtain⟨fn,ls,kws,pos,rfl,h⟩:=Xh h
  obtain⟨l,nm,ap,rfl,h⟩:=Z06 h
  obtain⟨rfl,h⟩:=W9 h
  change (_&&_)=true at h
  simp only[Bool.and_eq_true,beq_iff_eq,decide_eq_true_eq] at h
  obtain⟨⟨⟨⟨⟨rfl,h1⟩,h2⟩,h3⟩,h4⟩,h5⟩:=h
  exact both G (Zl5 G h1 (by rw[h2];simp) h3 h5 (Zx c o k Z w0 X l G h4).1 (Wd c es k Z w0 X ls G h5).1) fun _=>rfl
 | .comp N' js tg it cd e,k,Z,w0,X,ex,G,h=>by
  obtain⟨el,gens,scope,pos,rfl,h⟩:=Cp h
  obtain⟨g,rfl,h⟩:=Wr h
  obtain⟨t,iter,ifs,as⟩:=g
  obtain⟨rfl,h⟩:=Zf3 h
  change (_&&_)=true at h
  simp only[Bool.and_eq_true,decide_eq_true_eq] at h
  obtain⟨⟨⟨⟨⟨⟨⟨⟨h1,h2⟩,h3⟩,h4⟩,h5⟩,h6⟩,h7⟩,h8⟩,h9⟩:=h
  exact both G (O8 G h1 h2 h3 h5 (Zb8 c it k Z w0 X t iter G h4 h9) h6 h7 h8 (Zx c e) (Ey c cd)).1 fun _=>rfl
theorem Wd(c:Cfg):∀es:Es,Y29 c es
 | .nil,k,Z,w0,X,ls,G,h=>by
  cases ls with
  | nil=>
   refine⟨PA.imp Qs fun σ H Q zz109=>?_,fun b pos=>⟨PE.imp (t:=fun _ _ _=>False) (fun _ _ _ _ _ _ h=>h.elim) fun σ H Q zz110=>by obtain⟨w,σD,M,QD,S,g,aq⟩:=zz110;exact g,fun _ whole pins s σ H Q I zz111=>by obtain⟨w,σD,M,QD,S,g,aq⟩:=zz111;exact g.elim⟩⟩
   obtain⟨w,σD,M,QD,S,g,aq⟩:=zz109
   have:=aq [] w [] M (Ext.refl w) S.rs (RDs.nil w) g
   rw[S.heap] at this
   exact this
  | cons l ls=>exact absurd h Bool.false_ne_true
 | .cons e r,k,Z,w0,X,ls,G,h=>by
  cases ls with
  | nil=>exact absurd h Bool.false_ne_true
  | cons l ls=>
   change (_&&_)=true at h
   simp only[Bool.and_eq_true] at h
   obtain⟨ie,it⟩:=Zx c e k Z w0 X l G h.1.1
   obtain⟨ir,ib⟩:=Wd c r k Z w0 X ls G h.2
   refine⟨PA.imp (Wq ie ir (Zk h.1.2)) fun σ H Q ⟨w,σD,M,QD,S,g,aq⟩=>?_,fun b pos=>?_⟩
   ·refine Yq S g fun v w1 d M1 x1 r1 rd1 q1=>?_
    refine⟨w1,σD,M1,_,S.next x1 r1,q1,fun vs w2 ds M2 x2 r2 rd2 q2=>?_⟩
    exact aq _ w2 _ M2 (x1.trans x2) r2 (RDs.cons (rd1.ext x2) rd2) q2
   ·cases r with
    | nil=>
     cases ls with
     | cons _ _=>exact absurd h.2 Bool.false_ne_true
     | nil=>
      refine⟨PE.imp (Y75 ie) fun σ H Q q=>q,fun hn=>?_⟩
      have hn':noIf e=true:=by simpa[Z42] using hn
      cases b with
      | true=>exact fun whole pins s σ H Q I q=>Zu8 (it hn') whole pins s σ H Q I q
      | false=>exact fun whole pins s σ H Q I q=>Ya6 (it hn') whole pins s σ H Q I q
    | cons e2 r2=>
     cases ls with
     | nil=>exact absurd h.2 Bool.false_ne_true
     | cons l2 ls=>
      obtain⟨jb,jw⟩:=ib b pos
      constructor
      ·cases b with
       | true=>
        refine PE.imp (Y20 ie jb) fun σ H Q zz113=>?_
        obtain⟨w,σD,M,QD,S,g,aq⟩:=zz113
        refine Yq S g fun v w1 d M1 x1 r1 rd1 q1=>?_
        obtain⟨z,t1,t2⟩:=Sg (K:=X.K) (by rw[x1.K,S.K,G.eK]) r1 rd1 q1
        refine⟨z,t1,?_⟩
        cases z with
        | true=>rw[if_pos rfl] at t2 ⊢;exact Yq (S.next x1 r1) t2 (aq.ext x1)
        | false=>rw[if_neg Bool.false_ne_true] at t2 ⊢;exact aq _ w1 _ M1 x1 r1 rd1 t2
       | false=>
        refine PE.imp (Yb2 ie jb) fun σ H Q zz114=>?_
        obtain⟨w,σD,M,QD,S,g,aq⟩:=zz114
        refine Yq S g fun v w1 d M1 x1 r1 rd1 q1=>?_
        obtain⟨z,t1,t2⟩:=Sg (K:=X.K) (by rw[x1.K,S.K,G.eK]) r1 rd1 q1
        refine⟨z,t1,?_⟩
        cases z with
        | false=>rw[if_pos rfl] at t2;rw[if_neg Bool.false_ne_true];exact Yq (S.next x1 r1) t2 (aq.ext x1)
        | true=>rw[if_neg (by decide)] at t2;rw[if_pos rfl];exact aq _ w1 _ M1 x1 r1 rd1 t2
      ·intro hn
       have hn':noIf e=true∧Z42 (.cons e2 r2)=true:=by
        have:(noIf e&&Z42 (.cons e2 r2))=true:=hn
        simpa using this
       have jw':=jw hn'.2
       cases b with
       | true=>
        rintro whole pins s σ H Q I ⟨w,σD,M,QD,S,g,aq⟩
        refine Y96 (it hn'.1) jw' whole pins s σ H Q I ?_
        refine⟨w,σD,M,fun z M1=>if z=true then ttD (tbop c Z true (.cons e2 r2)) σD M1 QD else QD false M1,S,?_,fun z w1 M1 x1 r1 q1=>?_⟩
        ·exact te_bop_tt g
        ·cases z with
         | true=>rw[if_pos rfl] at q1 ⊢;exact⟨w1,σD,M1,QD,S.next x1 r1,q1,fun z w2 M2 x2 r2 q2=>aq z w2 M2 (x1.trans x2) r2 q2⟩
         | false=>rw[if_neg Bool.false_ne_true] at q1 ⊢;exact aq _ w1 M1 x1 r1 q1
       | false=>
        rintro whole pins s σ H Q I ⟨w,σD,M,QD,S,g,aq⟩
        refine Yd8 (it hn'.1) jw' whole pins s σ H Q I ?_
        refine⟨w,σD,M,fun z M1=>if z=true then QD true M1 else ttD (tbop c Z false (.cons e2 r2)) σD M1 QD,S,?_,fun z w1 M1 x1 r1 q1=>?_⟩
        ·exact te_bop_ff g
        ·cases z with
         | true=>rw[if_pos rfl] at q1 ⊢;exact aq _ w1 M1 x1 r1 q1
         | false=>rw[if_neg Bool.false_ne_true] at q1 ⊢;exact⟨w1,σD,M1,QD,S.next x1 r1,q1,fun z w2 M2 x2 r2 q2=>aq z w2 M2 (x1.trans x2) r2 q2⟩
theorem Ey(c:Cfg):∀eo:Eo,Zr6 c eo
 | .no=>⟨fun k Z w0 X lo G h=>by
   cases lo with
   | none=>
    rintro pins s σ H Q I ⟨w,σD,M,QD,S,g,aq⟩
    refine Zy1 pins s σ H Q I ?_
    have:=aq none w M (Ext.refl w) S.rs g
    rw[S.heap] at this
    exact this
   | some _=>exact absurd h Bool.false_ne_true,fun k Z w0 X ls G h=>by
   cases ls with
   | nil=>exact .inr ⟨rfl,rfl⟩
   | cons _ _=>exact absurd h Bool.false_ne_true⟩
 | .yes e=>⟨fun k Z w0 X lo G h=>by
   cases lo with
   | none=>exact absurd h Bool.false_ne_true
   | some x=>
    rintro pins s σ H Q I ⟨w,σD,M,QD,S,g,aq⟩
    refine Y12 (Zx c e k Z w0 X x G h).1 pins s σ H Q I ?_
    refine Yq S g fun v w1 d M1 x1 r1 rd1 q1=>?_
    split at q1
    ·cases Zj.mp rd1
     exact⟨_,rfl,aq _ w1 M1 x1 r1 q1⟩
    ·exact q1.elim,fun k Z w0 X ls G h=>by
   match ls,h with
   | [x],h=>
    change (_&&_)=true at h
    simp only[Bool.and_eq_true] at h
    exact .inl ⟨x,rfl,(Zx c e k Z w0 X x G h.1).2 h.2⟩
   | [],h=>exact absurd h Bool.false_ne_true
   | _::_::_,h=>exact absurd h Bool.false_ne_true⟩
theorem Zb8(c:Cfg):∀it:It,Ya0 c it
 | .seq e,k,Z,w0,X,tg,ex,G,h,_=>by
  refine PI.imp (Y94 (Zx c e k Z w0 X ex G h).1) fun σ H R zz115=>?_
  obtain⟨w,σD,M,QD,S,g,aq⟩:=zz115
  refine Yq S g fun v w1 d M1 x1 r1 rd1 q1=>?_
  have hK:X.K=w1.K:=by rw[x1.K,S.K,G.eK]
  unfold itD at q1
  split at q1
  ·obtain⟨hn,rfl⟩:=Y1.mp rd1
   obtain⟨xs,z1,z2⟩:=q1
   obtain⟨_,vs,y1,y2,_⟩:=r1.listL z1
   rw[←hK] at y1
   exact .inl ⟨_,rfl,⟨vs,y1⟩,aq _ w1 _ _ M1 x1 r1 (Zj2 hK hn) z2⟩
  ·obtain⟨a,vs,rfl,y1,y2⟩:=Xc.mp rd1
   exact .inr ⟨a,rfl,⟨vs,.of y1⟩,aq _ w1 _ _ M1 x1 r1 (Z84 hK (.of y1) y2) q1⟩
  ·obtain⟨a,vs,rfl,y1,y2⟩:=S6.mp rd1
   exact .inr ⟨a,rfl,⟨vs,by rw[hK];exact y1⟩,aq _ w1 _ _ M1 x1 r1 (Z84 hK y1 y2) q1⟩
  ·exact q1.elim
 | .rng1 a,k,Z,w0,X,tg,ex,G,h,_=>by
  obtain⟨fn,ls,kws,pos,rfl,h⟩:=Xh h
  obtain⟨x,np,rfl,h⟩:=Yy h
  obtain⟨rfl,h⟩:=W9 h
  obtain⟨l,rfl,h⟩:=Wr h
  change (_&&_)=true at h
  simp only[Bool.and_eq_true,beq_iff_eq,Dz] at h
  obtain⟨⟨⟨⟨rfl,h1⟩,h2⟩,h3⟩,h4⟩:=h
  obtain⟨g1,g2,g3⟩:=G.gl h1
  refine PI.imp (Zf7 g1 (G.blt _ h2) (Wq (Zx c a k Z w0 X l G h4).1 Qs (Zk h3)) (Zk h3)) fun σ H R zz116=>?_
  obtain⟨w,σD,M,QD,S,g,aq⟩:=zz116
  refine Yq S g fun v w1 d M1 x1 r1 rd1 q1=>?_
  split at q1
  ·cases Zj.mp rd1
   exact⟨_,rfl,q1.1,q1.2.1,aq _ w1 _ _ M1 x1 r1 Z62 q1.2.2⟩
  ·exact q1.elim
 | .rngd a b e,k,Z,w0,X,tg,ex,G,h,_=>by
  obtain⟨fn,ls,kws,pos,rfl,h⟩:=Xh h
  obtain⟨x,np,rfl,h⟩:=Yy h
  obtain⟨rfl,h⟩:=W9 h
  obtain⟨l,ls,rfl,h⟩:=Ph h
  obtain⟨r,ls,rfl,h⟩:=Ph h
  obtain⟨m,rfl,h⟩:=Wr h
  change (_&&_)=true at h
  simp only[Bool.and_eq_true,beq_iff_eq,Dz] at h
  obtain⟨⟨⟨⟨⟨⟨⟨⟨rfl,h1⟩,h2⟩,h3⟩,h5⟩,h7⟩,h4⟩,h6⟩,h8⟩:=h
  obtain⟨g1,g2,g3⟩:=G.gl h1
  refine PI.imp (Z58 g1 (G.blt _ h2) (Wq (Zx c a k Z w0 X l G h4).1 (Wq (Zx c b k Z w0 X r G h6).1 (Wq (Zx c e k Z w0 X m G h8).1 Qs (Zk h7)) (Zk h5)) (Zk h3)) (Zk h3) (Tc (by rw[Zk h5,Zk h7];rfl))) fun σ H R zz117=>?_
  obtain⟨w,σD,M,QD,S,g,aq⟩:=zz117
  refine Yq S g fun v w1 d M1 x1 r1 rd1 q1=>?_
  refine Yq (S.next x1 r1) q1 fun v2 w2 d2 M2 x2 r2 rd2 q2=>?_
  refine Yq ((S.next x1 r1).next x2 r2) q2 fun v3 w3 d3 M3 x3 r3 rd3 q3=>?_
  obtain⟨i,j,rfl,rfl,rfl,q4,q5⟩:=q3
  cases Zj.mp rd1
  cases Zj.mp rd2
  cases Zj.mp rd3
  exact⟨_,_,rfl,q4,aq _ w3 _ _ M3 ((x1.trans x2).trans x3) r3 Zg4 q5⟩
 | .rng2 a b,k,Z,w0,X,tg,ex,G,h,_=>by
  obtain⟨fn,ls,kws,pos,rfl,h⟩:=Xh h
  obtain⟨x,np,rfl,h⟩:=Yy h
  obtain⟨rfl,h⟩:=W9 h
  obtain⟨l,ls,rfl,h⟩:=Ph h
  obtain⟨r,rfl,h⟩:=Wr h
  change (_&&_)=true at h
  simp only[Bool.and_eq_true,beq_iff_eq,Dz] at h
  obtain⟨⟨⟨⟨⟨⟨rfl,h1⟩,h2⟩,h3⟩,h5⟩,h4⟩,h6⟩:=h
  obtain⟨g1,g2,g3⟩:=G.gl h1
  refine PI.imp (Zc2 g1 (G.blt _ h2) (Wq (Zx c a k Z w0 X l G h4).1 (Wq (Zx c b k Z w0 X r G h6).1 Qs (Zk h5)) (Zk h3)) (by rw[Zk h3,Zk h5];rfl) (Zk h5)) fun σ H R zz118=>?_
  obtain⟨w,σD,M,QD,S,g,aq⟩:=zz118
  refine Yq S g fun v w1 d M1 x1 r1 rd1 q1=>?_
  refine Yq (S.next x1 r1) q1 fun v2 w2 d2 M2 x2 r2 rd2 q2=>?_
  split at q2
  ·cases Zj.mp rd1
   cases Zj.mp rd2
   exact⟨_,_,rfl,q2.1,aq _ w2 _ _ M2 (x1.trans x2) r2 Z62 q2.2⟩
  ·exact q2.elim
 | .zip es,k,Z,w0,X,tg,ex,G,h,ht=>by
  cases tg with
  | Tuple elts ctx tp=>
   obtain⟨l,ls,p,q,rfl,h2⟩:=Z47 h
   simp only[Bool.and_eq_true,Dz] at h2
   obtain⟨⟨h3,h4⟩,h5⟩:=h2
   obtain⟨g1,g2,g3⟩:=G.gl h3
   obtain⟨s1,s2⟩:=Yh1 h5
   refine PI.imp (Zy7 g1 (G.blt _ h4) (Wd c es k Z w0 X (l::ls) G h5).1 s1 s2) fun σ H R zz119=>?_
   obtain⟨w,σD,M,QD,S,g,aq⟩:=zz119
   refine⟨w,σD,M,_,S,g,fun vs w1 ds M1 x1 r1 rd1 q1=>?_⟩
   obtain⟨da,db,rfl,q2⟩:=Qx q1
   have hK:X.K=w1.K:=by rw[x1.K,S.K,G.eK]
   obtain⟨v1,v2,rfl,a1,a2⟩:=rds2 rd1
   rcases Zm5 q2 with⟨n,m,ys,zs,rfl,rfl,z1,z2,z3⟩ | ⟨ys,zs,rfl,rfl,z3⟩
   ·obtain⟨hn,rfl⟩:=Y1.mp a1
    obtain⟨hm,rfl⟩:=Y1.mp a2
    obtain⟨_,us,y1,_,_⟩:=r1.listL z1
    obtain⟨_,vs,y2,_,_⟩:=r1.listL z2
    rw[←hK] at y1 y2
    exact .inl ⟨_,_,rfl,⟨us,y1⟩,⟨vs,y2⟩,aq _ w1 _ _ M1 x1 r1 (Y08 hK hn hm) z3⟩
   ·obtain⟨p1,us,rfl,y1,y2⟩:=Xc.mp a1
    obtain⟨p2,vs,rfl,y3,y4⟩:=Xc.mp a2
    exact .inr ⟨_,_,us,vs,rfl,.of y1,.of y3,aq _ w1 _ _ M1 x1 r1 (Zn0 y1 y3 y2 y4) z3⟩
  | _=>exact absurd ht Bool.false_ne_true
 | .enm a,k,Z,w0,X,tg,ex,G,h,ht=>by
  obtain⟨elts,ctx,tp,rfl,_⟩:=Jr (F:=fun _=>true) (show Zz0 tg (fun _=>true)=true by cases tg<;>first | rfl | exact ht)
  obtain⟨fn,ls,kws,pos,rfl,h⟩:=Xh h
  obtain⟨x,np,rfl,h⟩:=Yy h
  obtain⟨rfl,h⟩:=W9 h
  obtain⟨l,rfl,h⟩:=Wr h
  change (_&&_)=true at h
  simp only[Bool.and_eq_true,beq_iff_eq,Dz] at h
  obtain⟨⟨⟨⟨rfl,h1⟩,h2⟩,h3⟩,h4⟩:=h
  obtain⟨g1,g2,g3⟩:=G.gl h1
  refine PI.imp (Zv7 g1 (G.blt _ h2) (Wq (Zx c a k Z w0 X l G h4).1 Qs (Zk h3)) (Zk h3)) fun σ H R zz120=>?_
  obtain⟨w,σD,M,QD,S,g,aq⟩:=zz120
  refine Yq S g fun v w1 d M1 x1 r1 rd1 q1=>?_
  have hK:X.K=w1.K:=by rw[x1.K,S.K,G.eK]
  split at q1
  ·obtain⟨hn,rfl⟩:=Y1.mp rd1
   obtain⟨xs,z1,z2⟩:=q1
   obtain⟨_,vs,y1,y2,_⟩:=r1.listL z1
   rw[←hK] at y1
   exact⟨_,rfl,⟨vs,y1⟩,aq _ w1 _ _ M1 x1 r1 (Zo6 hK hn) z2⟩
  ·exact q1.elim
end
noncomputable def Bg:Expr→Bool
 | .ListComp .. | .SetComp .. | .DictComp ..=>false
 | _=>true
noncomputable def Z79:Expr→Bool
 | .Tuple ..=>false
 | _=>true
noncomputable def Zr2:Expr→Bool
 | .Name ..=>true
 | _=>false
noncomputable def Zu4(k:Ck)(t x:Expr):Bool:=match t,x with
 | .Name n pos,.ListComp _ _ scope p=>k.sc.kind== .function&&k.loc n&&pos.line==p.line&&!(scope.names.any fun(m,j)=>m==n&&(j== .local || j== .cell))
 | _,_=>false
noncomputable def Y92(k:Ck)(t x:Expr):Bool:=match t,x with
 | .Name n _,.ListComp ..=>k.sc.names.lookup n==some .cell
 | _,_=>false
noncomputable def chkB(k:Ck)(h:Tk)(f:Nat)(es:Es):Stmt→Bool
 | .Expr (.Call (.Name x p) ls [] q) _=>match h with
  | .drop=>chkE k (.call f es) (.Call (.Name x p) ls [] q)
  | _=>false
 | .Return (some (.Call (.Name x p) ls [] q)) _=>match h with
  | .ret=>chkE k (.call f es) (.Call (.Name x p) ls [] q)
  | _=>false
 | .Assign [.Name n _] (.Call (.Name x p) ls [] q) _=>match h with
  | .set i=>k.N[i]?==some n&&k.loc n&&chkE k (.call f es) (.Call (.Name x p) ls [] q)
  | _=>false
 | _=>false
mutual
noncomputable def chkS(k:Ck):S→Stmt→Bool
 | .ret e,.Return (some x) _=>chkE k e x
 | .expr e,.Expr x _=>Bg x&&chkE k e x
 | .set tg e,.Assign [t] x _=>O3 k tg t&&chkE k e x&&((Bg x&&(Zr2 t || Z79 x)) || (Zu4 k t x&&decide (tg.length=1)) || Y92 k t x)
 | .put o i v,.Assign [.Subscript l r _] x _=>Fw r&&Bg x&&chkE k v x&&chkE k o l&&chkE k i r
 | .ite t a b,.If x ls rs _=>chkE k t x&&noIf t&&Yj k a ls&&Yj k b rs
 | .for_ tg it b,.For t x ls [] _=>k.calm&&k.loops&&Z12 x&&O3 k tg t&&Zh5 k it x&&Yj k b ls&&itTg it t
 | .forK tg e b,.For t x ls [] _=>k.calm&&k.loops&&Z12 x&&O3 k tg t&&chkE k e x&&Yj k b ls
 | .while_ t b,.While x ls [] _=>k.loops&&chkE k t x&&noIf t&&Yj k b ls
 | .raise g es,.Raise (some (.Call (.Name x _) ls [] _)) none _=>k.calm&&k.raises.contains g&&k.GN[g]?==some x&&k.glob x&&decide (ls.length≤1)&&V0 k es ls
 | .tryN h f es g s,.Try [bs] [.ExceptHandler (some (.Name x _)) none (s0::ss) _] [] [] _=>k.calm&&k.tries&&k.GN[g]?==some x&&k.glob x&&chkB {k with tries:=false,raises:=[]} h f es bs&&
   Yj {k with calm:=false,loops:=true,tries:=false,raises:=[]} s (s0::ss)
 | _,_=>false
noncomputable def Yj(k:Ck):Ss→List Stmt→Bool
 | .nil,[]=>true
 | .cons s r,x::xs=>chkS k s x&&Yj k r xs
 | _,_=>false
end
section
variable{c:Cfg}{k:Ck}{Z:DX}{w0:Vw}{X:Cx}
theorem Ej{x:Expr}{t:Option Expr}(h:Bg x=true):swapsWith x t line env=pure false:=by
 cases x<;>first | rfl | cases h
theorem Px(S:StOk w0 w σD M σ H)(h:f RR σD M)
  (h1:∀σ' w' σD' M',Ext w w'→RS w' M'→REnv w' σD' σ'→RR.nx σD' M'→R.nx σ' w'.H) (h2:Aft w RR.rt R.rt)
  (h3:∀σ' w' σD' M',Ext w w'→RS w' M'→REnv w' σD' σ'→RR.bk σD' M'→R.bk σ' w'.H)
  (h4:∀σ' w' σD' M',Ext w w'→RS w' M'→REnv w' σD' σ'→RR.ct σD' M'→R.ct σ' w'.H):tFS w0 f R σ H:=⟨w,σD,M,RR,S,h,h1,h2,h3,h4⟩
noncomputable def Y34(X:Cx)(R:Ends):Ends:={nx:=fun σ H=>∃a o kvs,H a=some (.frz o (.dK kvs))∧(∀o u,X.H₀ a≠some (.frz o u))∧R.nx σ (upd H a (.dK kvs)),rt:=fun v H=>∃a o kvs,H a=some (.frz o (.dK kvs))∧(∀o u,X.H₀ a≠some (.frz o u))∧R.rt v (upd H a (.dK kvs))}
theorem Y00{st:Stmt}{t:TS}(h:PS X st t):PS X st (fun R σ H=>t (Y34 X R) σ H):=by
 intro pins s σ H D I q
 refine thn (h pins s σ H (Y34 X D) I q) fun f s' hp=>?_
 cases f with
 | next=>
  obtain⟨σ',H',I',a,o,kvs,e,nf,q⟩:=hp
  exact⟨σ',_,Zr4 I' e nf,q⟩
 | brk=>obtain⟨σ',H',I',q⟩:=hp;exact q.elim
 | cont=>obtain⟨σ',H',I',q⟩:=hp;exact q.elim
 | ret u=>
  obtain⟨v,σ',H',I',r,a,o,kvs,e,nf,q⟩:=hp
  exact⟨v,σ',_,Zr4 I' e nf,r,q⟩
theorem REnv.ext0(h:REnv w σD σ)(x:Ext0 w w'):REnv w' σD σ:=
 ⟨h.1,fun i d e=>by obtain⟨v,q,r⟩:=h.2 i d e;exact⟨v,q,r.ext0 x⟩⟩
theorem Gh{n:Nat}(hn:n<w1.n)(y1:w1.H (w1.μ n)=some (.dK vs))(x:Ext (w1.alloc (w1.μ n) (.frz o (.dK vs))) w')(r:RS w' M')(t:M'[n]?=some (.fdc kvs)):
  w'.H (w1.μ n)=some (.frz o (.dK vs))∧Ext w1 (w'.alloc (w1.μ n) (.dK vs))∧Ext0 w' (w'.alloc (w1.μ n) (.dK vs))∧RS (w'.alloc (w1.μ n) (.dK vs)) (M'.set n (.dct kvs)):=by
 have q:=x.imm (w1.μ n) _ Zs rfl
 have eμ:w'.μ n=w1.μ n:=x.μ n hn
 obtain⟨o',us,q1,q2⟩:=r.cell n _ t
 rw[eμ,q] at q1
 cases q1
 refine⟨q,Zi2 y1 rfl x,Jy q,?_⟩
 have:=r.thaw t (by rw[eμ];exact q) q2
 rw[eμ] at this
 exact this
theorem Z65{w1:Vw}{J:L2.It}{own:Own}{xs:List D}{tg:List Nat}{body:DS}{M1:Z3}{H1:Hp}{σD:DEnv}{σ:L2.St}{RR:DEnds}{R:Ends}(S:StOk w0 w1 σD M1 σ H1)(jk:JOk w1 J own xs)
  (h:forD own xs tg body xs RR σD M1)
  (h1:∀σ' w' σD' M',Ext w1 w'→RS w' M'→REnv w' σD' σ'→RR.nx σD' M'→R.nx σ' w'.H) (h2:Aft w1 RR.rt R.rt):
  ∃W:Nat→Nat→L2.St→Hp→Prop,(∃m,W 0 m σ H1)∧∀i m σ H,W i m σ H→
   (J.stop i H∧R.nx σ H)∨(J.go i H∧∃N:L2.St→Hp→Prop,(∀σ' H',N σ' H'→∃m',m'<m∧W (i+1) m' σ' H')∧∀x H',J.yld i H x H'→gF w0 tg x σ H' fun σ2 H2=>tFS w0 body {R with nx:=N,ct:=N,bk:=R.nx} σ2 H2):=by
 refine⟨fun i m σ H=>∃w σE M,StOk w0 w σE M σ H∧Ext w1 w∧i≤xs.length∧m=xs.length - i∧forD own xs tg body (xs.drop i) RR σE M,⟨xs.length,w1,σD,M1,S,Ext.refl _,Nat.zero_le _,rfl,h⟩,?_⟩
 rintro i m σc Hc ⟨w,σE,M,S1,x1,hi,rfl,hc⟩
 have stp:∀st:Pl own xs M,_:=fun st=>jk w M x1 S1.rs st i
 rw[S1.heap] at stp
 by_cases hil:i<xs.length
 ·rw[Hn hil] at hc
  obtain⟨st,hc⟩:=hc
  obtain⟨j1,j2⟩:=(stp st).1 xs[i] (Ai hil)
  refine .inr ⟨j1,fun σ' H'=>∃w σE M,StOk w0 w σE M σ' H'∧Ext w1 w∧i+1≤xs.length∧forD own xs tg body (xs.drop (i+1)) RR σE M,?_,fun x H' hy=>?_⟩
  ·rintro σ' H' ⟨w2,σ2,M2,S2,x2,l2,f2⟩
   exact⟨xs.length - (i+1),by omega,w2,σ2,M2,S2,x2,l2,rfl,f2⟩
  ·obtain⟨w3,rfl,x3,R3,rd3⟩:=j2 x H' hy
   refine⟨w3,σE,M,xs[i],_,⟨rfl,S1.ext.trans x3,R3,S1.env.ext x3⟩,rd3,hc,fun σ2 σE2 env2 q2=>?_⟩
   have nxt:∀σ' w' σD' M',Ext w3 w'→RS w' M'→REnv w' σD' σ'→forD own xs tg body (xs.drop (i+1)) RR σD' M'→
     ∃w σE M,StOk w0 w σE M σ' w'.H∧Ext w1 w∧i+1≤xs.length∧forD own xs tg body (xs.drop (i+1)) RR σE M:=
    fun σ' w' σD' M' x' r' e' q'=>⟨w',σD',M',⟨rfl,(S1.ext.trans x3).trans x',r',e'⟩,(x1.trans x3).trans x',hil,q'⟩
   exact Px ⟨rfl,S1.ext.trans x3,R3,env2⟩ q2 nxt (fun v w' d M' x' r' rd' q'=>h2 v w' d M' ((x1.trans x3).trans x') r' rd' q')
    (fun σ' w' σD' M' x' r' e' q'=>h1 σ' w' σD' M' ((x1.trans x3).trans x') r' e' q') nxt
 ·rw[List.drop_eq_nil_of_le (by omega)] at hc
  obtain⟨st,hq⟩:=hc
  refine .inl ⟨(stp st).2 (by omega),?_⟩
  have:=h1 σc w σE M x1 S1.rs S1.env hq
  rw[S1.heap] at this
  exact this
theorem Yb1{o i value:Expr}{td ty tv:TE}(hu:X.A.units+1<cLine)(ho:PE X o td)(hi:PE X i ty)(hv:PE X value tv)(hs:swapsWith value (some (.Subscript o i pos')) pos.line X.env=pure false):
  PS X (.Assign [.Subscript o i pos'] value pos) (fun R σ H=>tv σ H fun v H1=>td σ H1 fun x H2=>ty σ H2 fun y H3=>Yc4 x y v H3 (fun H4=>R.nx σ H4)∨∃a H4,x= .ref a∧DPut H3 a y v H4∧R.nx σ H4):=by
 intro pins s σ H D I h
 refine wpAny_Assign_Subscript (thn (hv pins s σ H _ I h) fun r s1 ⟨v,H1,I1,rv,q1⟩=>thn (ho pins s1 σ H1 _ I1 q1) fun u s2 ⟨x,H2,I2,rx,q2⟩=>thn (hi pins s2 σ H2 _ I2 q2) fun iv s3 zz123=>?_) hs
 obtain⟨y,H3,I3,ry,q3⟩:=zz123
 rcases q3 with q3 | ⟨a,H4,ex,g,q3⟩
 ·exact thn (Zl2 pins s3 σ H3 x y v u iv r (fun H4=>D.nx σ H4) I3 rx ry rv q3) fun _ s4 zz124=>by obtain⟨H4,I4,q4⟩:=zz124;exact⟨σ,H4,I4,q4⟩
 ·subst ex
  obtain rfl:u=Value.ref a:=rx
  exact Z80 hu I3 g ry rv fun s4 I4=>⟨σ,H4,I4,q3⟩
theorem Z87{E:XK}{x:Str}{t:TA}(L:Leaves X E)(hc:X.calm=true)(Mk:ExcMk X.K C f)(F:FnOk X.prog X.w X.K X.mg X.base CX0 kk f fd ps sp)(hr:Room (kk+1) X.A)(hb:Zu X.K fd ps ds)(hd:Vals dvs ds)(hg:Gl X x)(hm:X.mg x=some (.ref C))
  (ha:PA X (e::es) t) (hdb:(x==("__debug__":Str))=false) (he:starEach (e::es) X.env=(false,eval e X.env)::starEach es X.env) (hpl:(backTo cpos (starEach es X.env)).any (·.1)=false):
  PS X (.Raise (some (.Call (.Name x np) (e::es) [] cpos)) none pos) (Zq4 C sp dvs E t):=by
 intro pins s σ H D I h
 rw[arm_exec_Raise]
 simp only[evalOpt,Option.map]
 refine Aa (Kh (Py (C:=C) (I.ok.hd hc) ?_))
 refine Aa (Dv (Q:=fun v s1=>∃(e:Addr) (nm q:Str) (N:Addr) (bs bm:List Value) (hdct:Bool) (sn:List Str) (sub:List Value) (ab:Bool) (col:Option Bool) (dd:Option Addr) (k0 k1 k2 k3 k5:Option Value) (dx:Option Addr),
   v= .ref e∧ExcCls s1.heap C nm q N bs bm hdct sn sub ab col dd k0 k1 k2 k3 k5 "ValueError" "ValueError.__new__"∧ExAt s1.heap e (.ref C) dx .none∧X.xe (.ref e) s1) ?_ (fun v s1 z=>Aa (Kh (Ag z))) fun _ _ z=>z)
 refine Hs (Vs I hg hm ?_ hdb)
 refine PySem.W.callWith_K (h₀:=X.base) I.ok.mod.kin Mk.kp (thn (ha cpos pins s σ H _ I h) fun us s1 ⟨vs,H1,I1,r,q⟩=>⟨I1.kIn,?_⟩) he hpl
 exact B3 L Mk F hr hb hd I1 r q.1 q.2
end
def Z48(c:Cfg)(s:S):Prop:=∀(k:Ck) (Z:DX) (w0:Vw) (X:Cx) (st:Stmt),Good c k Z w0 X→chkS k s st=true→PS X st (tFS w0 (ts c Z s))
def Zb6(c:Cfg)(s:Ss):Prop:=∀(k:Ck) (Z:DX) (w0:Vw) (X:Cx) (st:List Stmt),Good c k Z w0 X→Yj k s st=true→PSs X st (tFS w0 (tss c Z s))
section
variable{c:Cfg}{k:Ck}{Z:DX}{w0:Vw}{X:Cx}
theorem Good.noxG(G:Good c k Z w0 X):Good c {k with tries:=false,raises:=[]} noX w0 X.nox where
 hK:=G.hK
 wK:=G.wK
 N:=G.N
 nd:=G.nd
 sc:=G.sc
 calm:=G.calm
 units:=G.units
 fns:=fun h f x sp h1 h2=>by
  obtain⟨kk,f,fd,ps,ds,dvs,dD,sp0,h⟩:=G.fns h f x sp h1 h2
  exact⟨kk,f,fd,ps,ds,dvs,dD,sp0,h⟩
 flen:=G.flen
 glb:=G.glb
 blt:=G.blt
 exc:=⟨E0,fun _ _ _ _ _ _ _ h=>by
  obtain⟨_,_,_,_,_,_,_,_,_,_,_,_,_,_,_,h⟩:=h
  exact h.elim,fun cls dd H' h=>by
  obtain⟨_,_,_,_,_,_,_,_,_,_,_,_,_,h⟩:=h
  exact h.elim⟩
 stk:=fun h=>by cases h
 rai:=fun _ h=>absurd h Bool.false_ne_true
 po:=fun _=>PassesOwn.never
 fnc:=G.fnc
 fno:=G.fno
theorem Good.heldG(G:Good c k Z w0 X)(e:Addr):Good c {k with calm:=false,loops:=true,tries:=false,raises:=[]} noX w0 (Held X e) where
 hK:=G.hK
 wK:=G.wK
 N:=G.N
 nd:=G.nd
 sc:=G.sc
 calm:=fun h=>by cases h
 units:=G.units
 fns:=fun h=>by cases h
 flen:=G.flen
 glb:=G.glb
 blt:=G.blt
 exc:=⟨E0,fun _ _ _ _ _ _ _ h=>by
  obtain⟨_,_,_,_,_,_,_,_,_,_,_,_,_,_,_,h⟩:=h
  exact h.elim,fun cls dd H' h=>by
  obtain⟨_,_,_,_,_,_,_,_,_,_,_,_,_,h⟩:=h
  exact h.elim⟩
 stk:=fun h=>by cases h
 rai:=fun _ h=>absurd h Bool.false_ne_true
 po:=fun _=>PassesOwn.never
 fnc:=G.fnc
 fno:=G.fno
def tFX(w0:Vw)(g:DX→DE):TEX:=fun σ H Q E=>∃w σD M QD Z,StOk w0 w σD M σ H∧g Z σD M QD∧Aft w QD Q∧∀cls dd H',xkOf w Z cls dd H'→E cls dd H'
theorem PEX.imp{t t':TEX}(h:PEX X e t)(q:∀σ H Q E,t' σ H Q E→t σ H Q E):PEX X e t':=fun pins s σ H Q E I z=>h pins s σ H Q E I (q σ H Q E z)
theorem Z88{s:Ss}:ts c Z (.tryN h f es g s) R σ M=(match c.G[g]? with
  | some (.cls D)=>tes c noX es σ M fun ds M1=>match c.Γ[f]? with
   | some sp=>sp ds M1 (tkD h R σ) fun C _ M2=>Catch c.K C D true∧tss c noX s R σ M2
   | none=>False
  | _=>False):=rfl
theorem Za4{x:Str}{p pos:Pos}(F:FnOk X.prog X.w X.K X.mg X.base (CX1 X.prog X.w) kk f fd ps sp)(hr:Room kk X.A)(hg:Gl X x)(hm:X.mg x=some (.ref f))(hk:Ad X.K (.ref f)=true)(hb:Zu X.K fd ps ds)(hd:Vals dvs ds)
  (hdb:(x==("__debug__":Str))=false):PEX X (.Call (.Name x p) [] [] pos) (Zq6 sp dvs tNil):=by
 intro pins s σ H Q E I h
 refine Hs (Vs I hg hm ?_ hdb)
 refine PySem.W.callWith_K0 I.kIn hk ?_
 have hl:([]++ds).length=ps.length:=by
  have r2:Vals ([]++dvs) ([]++ds):=hd
  rw[←r2.length];exact F.len _ _ _ _ h
 refine Lo (Ix (F.run X.A X.stack s H ⟨[],[]⟩ ([]++ds) ([]++dvs) Q E hr I.env0 (hb s [] I.kIn hl) hd h) fun rr s' hq=>?_)
 cases rr with
 | error z=>exact Ya3 I hq
 | ok fl=>
  cases fl with
  | ret u=>exact I.after hq
  | next=>exact De hq
  | brk=>exact De hq
  | cont=>exact De hq
theorem Tp{x:Str}(G:Good c k Z w0 X)(h:chkE {k with tries:=false,raises:=[]} (.call f es) (.Call (.Name x np) ls [] pos)=true):PEX X (.Call (.Name x np) ls [] pos) (tFX w0 fun Z=>fun σD M QD=>tes c noX es σD M fun ds M1=>match c.Γ[f]? with
  | some sp=>sp ds M1 QD Z
  | none=>False):=by
 change (_&&_)=true at h
 simp only[Bool.and_eq_true,beq_iff_eq] at h
 obtain⟨⟨⟨hc,hf⟩,hg⟩,hs⟩:=h
 obtain⟨g1,g2,g3⟩:=G.gl hg
 cases hsp:c.Γ[f]? with
 | none=>
  have h1:=(Af.mp hf).1
  have h2:=List.getElem?_eq_none_iff.mp hsp
  rw[G.flen] at h1
  omega
 | some sp=>
  obtain⟨kk,fa,fd,pr,ds,dvs,dD,sp0,F,hr,hm,hk,hb,hd,hD,hsp0⟩:=G.fns hc f x sp hf hsp
  have key:∀σ H Q E,tFX w0 (fun Z=>fun σD M QD=>tes c noX es σD M fun ds M1=>sp ds M1 QD Z) σ H Q E→tFA w0 (tes c noX es) σ H fun vs H1=>spF X.K sp0 (vs++dvs) H1 Q E:=by
   rintro σ H Q E ⟨w,σD,M,QD,Z',S,g,a,xk⟩
   refine⟨w,σD,M,_,S,g,fun vs w' ds' M' x' r' rd' q'=>?_⟩
   have hKw:w'.K=X.K:=by rw[x'.K,S.K,G.eK]
   exact⟨w',ds'++dD,M',QD,Z',hKw,rfl,r',rd'.append (hD w' hKw),hsp0 _ _ _ _ q',a.ext x',fun cls dd H' hx=>xk cls dd H' (Gd x' hx)⟩
  cases ls with
  | nil=>
   refine PEX.imp (Za4 F hr g1 hm hk hb hd g2) fun σ H Q E h=>?_
   obtain⟨w,σD,M,QD,S,g,a⟩:=key σ H Q E h
   cases es with
   | nil=>
    have:=a [] w [] M (Ext.refl w) S.rs (RDs.nil w) g
    rw[S.heap] at this
    exact this
   | cons e r=>exact absurd hs Bool.false_ne_true
  | cons l ls=>
   cases es with
   | nil=>exact absurd hs Bool.false_ne_true
   | cons e r=>
    have ih:=(Wd c (.cons e r) _ _ w0 X.nox (l::ls) G.noxG hs).1
    change (_&&_)=true at hs
    simp only[Bool.and_eq_true] at hs
    exact PEX.imp (Zo2 F hr g1 hm hk hb hd ih g2 (Zk hs.1.2) (Tc (Wb r ls hs.2))) key
def Yf8(K:Ab)(D:Addr)(tb:TSX)(ts:TS):TS:=fun R σ H=>tb R (fun cls dd H1=>∃C,cls= .ref C∧Catch K C D true∧ts R σ H1) σ H
theorem Y22{x:Str}{D:Addr}{ts:TS}(hb:PSX X body tb)(hs:∀e,PSs (Held X e) (b₀::suite) ts)(hg:Gl X x)(hm:X.mg x=some (.ref D))(L:X.stack=X.env::X.outer)(hf:X.env.frame=some X.env.locals)
  (hdb:(x==("__debug__":Str))=false:=by decide):PS X (.Try body [.ExceptHandler (some (.Name x np)) none (b₀::suite) hpos] [] [] pos) (Yf8 X.K D tb ts):=by
 intro pins s σ H R I h
 refine wpAny_Try_except (Dv (hb pins s σ H R _ I h) (fun f s1 q=>?_) fun y s1 q=>?_)
 ·cases f with
  | next=>exact La q
  | ret v=>exact q
  | brk=>exact q
  | cont=>exact q
 obtain⟨e,T,cls,dd,H1,rfl,I1,ft,hTe,he,x1,t1,C,rfl,S,q⟩:=q
 refine Gw (outer:=X.outer) (base:=X.base) (L:=X.env.locals) (by rw[←L];exact I1.ok.frames) (by rw[←L];exact I1.stack) hf x1 t1 hTe fun h2 T1 z1 z2 z3 z4 z5=>?_
 have I2:Inv X pins σ H1 {s1 with heap:=h2}:=Zj8 I1 ft he z3 (by rw[L];exact z5)
 have f2:FpOk X pins H1 T1:=I1.fpOk z1 (I1.hok.fresh z1)
 refine R7 (s:={s1 with heap:=h2}) z3 z4 z2 fun h3 x3 t3 k3 _=>?_
 have I3:Inv X pins σ H1 {s1 with heap:=h3}:=Cd (s:={s1 with heap:=h2}) I2 f2 k3
 have J3:=Zv8 I3 e
 refine wpAny_handleBy_cons (codeAny_handlers_test ?_) (by intro z;cases z)
 refine Vs (X:=Held X e) J3 hg hm ?_ hdb
 obtain⟨oe,vs,y1,⟨y2,y3⟩,y4,y5⟩:=id x3
 refine Ea (s:={s1 with heap:=h3}) J3.kIn S y1 y2 ?_
 refine PySem.codeAny_handlers_suite ?_
 refine R7 (s:={s1 with heap:=h3}) x3 t3 z2 fun h4 x4 t4 k4 _=>?_
 have J4:Inv (Held X e) pins σ H1 {s1 with heap:=h4}:=Cd (s:={s1 with heap:=h3}) J3 f2 k4
 refine Dv (hs e pins _ _ H1 _ J4 q) (fun f s6 q6=>?_) fun _ _ z=>z.elim
 cases f with
 | next=>
  obtain⟨σ6,H6,J6,q6⟩:=q6
  exact⟨_,_,Q1 I.ok J6,q6⟩
 | brk=>
  obtain⟨σ6,H6,J6,q6⟩:=q6
  exact⟨_,_,Q1 I.ok J6,q6⟩
 | cont=>
  obtain⟨σ6,H6,J6,q6⟩:=q6
  exact⟨_,_,Q1 I.ok J6,q6⟩
 | ret u=>
  obtain⟨v,σ6,H6,J6,rv,q6⟩:=q6
  exact⟨v,_,_,Q1 I.ok J6,rv,q6⟩
theorem Z34{bs s0:Stmt}{x:Str}(G:Good c k Z w0 X)(hc:k.calm=true)(ht:k.tries=true)(hg:k.GN[g]?=some x)(hgl:k.glob x=true)
  (hb:chkB {k with tries:=false,raises:=[]} h f es bs=true) (hs:Yj {k with calm:=false,loops:=true,tries:=false,raises:=[]} sx (s0::ss)=true) (ih:Zb6 c sx):
  PS X (.Try [bs] [.ExceptHandler (some (.Name x np)) none (s0::ss) hp] [] [] pos) (tFS w0 (ts c Z (.tryN h f es g sx))):=by
 obtain⟨g1,g2,g3⟩:=G.gl hgl
 obtain⟨st1,st2⟩:=G.stk ht
 have never:(∀D,c.G[g]?≠some (.cls D))→PS X (.Try [bs] [.ExceptHandler (some (.Name x np)) none (s0::ss) hp] [] [] pos) (tFS w0 (ts c Z (.tryN h f es g sx))):=fun no=>
  PS.imp B2 fun R σ H ⟨w,σD,M,RR,S,q,_⟩=>by
   rw[Z88] at q
   split at q
   ·rename_i D e;exact(no D e).elim
   ·exact q
 by_cases hD:∃D,c.G[g]?=some (.cls D)
 ·obtain⟨Dc,hD⟩:=hD
  obtain⟨v,u,q1,q2,q3⟩:=G.glb g x _ hg hD
  have hv:v= .ref Dc:=Ov.mp (q3 ⟨X.K,fun _=>none,fun _=>0,0⟩ rfl)
  subst hv
  cases (show u=Value.ref Dc from q2)
  have suite:∀e,PSs (Held X e) (s0::ss) (tFS w0 (tss c noX sx)):=fun e=>ih _ _ w0 (Held X e) (s0::ss) (G.heldG e) hs
  have key:∀(R:Ends) (σ:L2.St) (H:Hp) (Q:VK),tFS w0 (ts c Z (.tryN h f es g sx)) R σ H→(∀(RR:DEnds) (σD:DEnv) (w:Vw),REnv w σD σ→(∀σ' w' σD' M',Ext w w'→RS w' M'→REnv w' σD' σ'→RR.nx σD' M'→R.nx σ' w'.H)→Aft w RR.rt R.rt→Aft w (tkD h RR σD) Q)→
    tFX w0 (fun Z=>fun σD M QD=>tes c noX es σD M fun ds M1=>match c.Γ[f]? with
     | some sp=>sp ds M1 QD Z
     | none=>False) σ H Q (fun cls dd H1=>∃C,cls= .ref C∧Catch X.K C Dc true∧tFS w0 (tss c noX sx) R σ H1):=by
   rintro R σ H Q ⟨w,σD,M,RR,S,q,h1,h2,h3,h4⟩ hQ
   rw[Z88] at q
   rw[hD] at q
   refine⟨w,σD,M,tkD h RR σD,_,S,q,hQ RR σD w S.env h1 h2,?_⟩
   rintro cls dd H' ⟨C,dx,r,w',row,M',rfl,rfl,rfl,x',r',z1,z2,z3,z4⟩
   refine⟨C,rfl,by rw[G.hK];exact z3,?_⟩
   refine Px (RR:=RR) ⟨rfl,S.ext.trans x',r',S.env.ext x'⟩ z4 ?_ ?_ ?_ ?_
   ·exact fun σ' w2 σD' M2 x2 r2 e2 q2=>h1 _ w2 _ M2 (x'.trans x2) r2 e2 q2
   ·exact h2.ext x'
   ·exact fun σ' w2 σD' M2 x2 r2 e2 q2=>h3 _ w2 _ M2 (x'.trans x2) r2 e2 q2
   ·exact fun σ' w2 σD' M2 x2 r2 e2 q2=>h4 _ w2 _ M2 (x'.trans x2) r2 e2 q2
  have fin:∀{tb:TSX},PSX X [bs] tb→(∀R σ H,tFS w0 (ts c Z (.tryN h f es g sx)) R σ H→tb R (fun cls dd H1=>∃C,cls= .ref C∧Catch X.K C Dc true∧tFS w0 (tss c noX sx) R σ H1) σ H)→
    PS X (.Try [bs] [.ExceptHandler (some (.Name x np)) none (s0::ss) hp] [] [] pos) (tFS w0 (ts c Z (.tryN h f es g sx))):=fun{tb} hb' hk=>
   PS.imp (Y22 hb' suite g1 q1 st1 st2 g2) hk
  unfold chkB at hb
  split at hb
  ·split at hb
   ·refine fin (Zi5 (Tp G hb) rfl) fun R σ H q=>key R σ H _ q fun RR σD w env h1 h2=>fun v w' d M' x' r' rd' q'=>h1 σ w' σD M' x' r' (env.ext x') q'
   ·cases hb
  ·split at hb
   ·refine fin (Y01 (Tp G hb)) fun R σ H q=>key R σ H _ q fun RR σD w env h1 h2=>h2
   ·cases hb
  ·split at hb
   ·rename_i j
    simp only[Bool.and_eq_true,beq_iff_eq] at hb
    obtain⟨⟨hb1,hb2⟩,hb3⟩:=hb
    have hj:=(congrArg (fun N:List Str=>N[j]?) G.N).trans hb1
    unfold Ck.loc at hb2
    have hjl:=Iy hb2
    dsimp only at hjl
    rw[←G.sc] at hjl
    refine fin (Y03 G.nd hj (.inl hjl) (Tp G hb3) rfl (.inr hjl)) fun R σ H q=>key R σ H _ q fun RR σD w env h1 h2=>fun v w' d M' x' r' rd' q'=>h1 _ w' _ M' x' r' ((env.ext x').set j rd') q'
   ·cases hb
  ·cases hb
 ·exact never fun D e=>hD ⟨D,e⟩
end
section
variable{c:Cfg}{k:Ck}{Z:DX}{w0:Vw}{X:Cx}
theorem Z36{a b c' d':HO}(h:(upd H e a) dx=none):upd (upd (upd (upd H e a) dx b) e c') e d'=upd (upd H dx b) e d'∧dx≠e:=by
 have hne:dx≠e:=by
  rintro rfl
  rw[Zs] at h
  cases h
 refine⟨?_,hne⟩
 funext p
 unfold upd
 by_cases h1:p=e
 ·simp[h1]
 ·by_cases h2:p=dx
  ·simp[h2,hne]
  ·simp[h1,h2]
theorem Cv{k:Nat}:ts c Z (.raise k es) R σ M=(match c.G[k]? with
  | some (.cls C)=>tes c Z es σ M fun ds M1=>match excD ds with
   | some r=>Z C r M1
   | none=>False
  | _=>False):=rfl
theorem E5{x:Str}(G:Good c k Z w0 X)(hc:k.calm=true)(hr:k.raises.contains g=true)(hg:k.GN[g]?=some x)(hgl:k.glob x=true)(hn:ls.length≤1)(hs:V0 k es ls=true)(ih:PA X ls (tFA w0 (tes c Z es))):
  PS X (.Raise (some (.Call (.Name x np) ls [] cpos)) none pos) (tFS w0 (ts c Z (.raise g es))):=by
 obtain⟨g1,g2,g3⟩:=G.gl hgl
 by_cases hD:∃C,c.G[g]?=some (.cls C)
 ·obtain⟨C,hD⟩:=hD
  obtain⟨v,u,q1,q2,q3⟩:=G.glb g x _ hg hD
  have hv:v= .ref C:=Ov.mp (q3 ⟨X.K,fun _=>none,fun _=>0,0⟩ rfl)
  subst hv
  cases (show u=Value.ref C from q2)
  obtain⟨⟨E,L,xk⟩,rs⟩:=G.rai g hr
  obtain⟨kk,f,fd,Mk,F,room,b1,b0,S0⟩:=rs C hD
  have key:∀(R:Ends) (σ:L2.St) (H:Hp) (dvs:List V) (row:List D→D),(∀(w:Vw) ds vs r,excD ds=some r→RDs w ds vs→ds.length=ls.length→∃y,vs++dvs=[y]∧RD w r y)→(∀σD M QD,tes c Z es σD M QD→tes c Z es σD M fun ds M1=>ds.length=ls.length∧QD ds M1)→tFS w0 (ts c Z (.raise g es)) R σ H→
    tFA w0 (tes c Z es) σ H fun vs H1=>vs.length≤8∧∀e,H1 e=none→Of X.K (.ref e::(vs++dvs)) (upd H1 e (XN e (.ref C) none)) (fun v H2=>v= .non∧∃dd,H2 e=some (XN e (.ref C) dd)∧E (.ref C) dd (upd H2 e (XO e (.ref C) dd))) E0:=by
   rintro R σ H dvs row hrow hlen ⟨w,σD,M,RR,S,q,_⟩
   rw[Cv] at q
   rw[hD] at q
   refine⟨w,σD,M,_,S,hlen _ _ _ q,fun vs w' ds M' x' r' rd' q'=>?_⟩
   obtain⟨hl,q'⟩:=q'
   split at q'
   ·rename_i r er
    obtain⟨y,ey,ry⟩:=hrow w' ds vs r er rd' hl
    have hvl:vs.length≤8:=by
     have:=congrArg List.length ey
     simp at this
     omega
    refine⟨hvl,fun e he=>⟨e,C,y,by rw[ey],Zs,S0,fun dx hdx=>⟨rfl,some dx,Zs,?_⟩⟩⟩
    obtain⟨eH,hne⟩:=Z36 (b:= .xd [("row",y)]) (c':=XN e (.ref C) (some dx)) (d':=XO e (.ref C) (some dx)) hdx
    rw[eH]
    have hdx':w'.H dx=none:=by rw[Za hne] at hdx;exact hdx
    have he':(w'.alloc dx (.xd [("row",y)])).H e=none:=by
     show upd w'.H dx _ e=none
     rw[Za (Ch hne)];exact he
    have y1:=Vl (o:= .xd [("row",y)]) hdx'
    have y2:=Vl (o:=XO e (.ref C) (some dx)) he'
    have y12:=y1.trans y2
    refine xk _ _ _ ⟨C,dx,y,(w'.alloc dx (.xd [("row",y)])).alloc e (XO e (.ref C) (some dx)),r,M',rfl,rfl,rfl,(S.ext.trans x').trans y12,(r'.alloc hdx').alloc he',?_,ry.ext y12,q'⟩
    rw[Za hne,Zs]
   ·exact q'.elim
  cases ls with
  | nil=>
   cases es with
   | cons e r=>exact absurd hs Bool.false_ne_true
   | nil=>
    refine PS.imp (Z83 L (G.calm hc) Mk F room b1 (dvs:=[.non]) (.cons rfl .nil) g1 q1 g2) fun R σ H h=>?_
    obtain⟨w,σD,M,QD,S,q,a⟩:=key R σ H [.non] (fun _=> .non) (fun w ds vs r er rd hl=>by
     cases Ie.mp hl
     cases rds0 rd
     cases er
     exact⟨.non,rfl,Xv.mpr rfl⟩) (fun σD M QD h=>⟨rfl,h⟩) h
    have:=a [] w [] M (Ext.refl w) S.rs (RDs.nil w) q
    rw[S.heap] at this
    exact this
  | cons l ls=>
   cases ls with
   | cons _ _=>simp at hn
   | nil=>
    cases es with
    | nil=>exact absurd hs Bool.false_ne_true
    | cons ee r=>
     cases r with
     | cons _ _=>
      change (_&&_)=true at hs
      simp only[Bool.and_eq_true] at hs
      exact absurd hs.2 Bool.false_ne_true
     | nil=>
      change (_&&_)=true at hs
      simp only[Bool.and_eq_true] at hs
      refine PS.imp (Z87 L (G.calm hc) Mk F room b0 (dvs:=[]) .nil g1 q1 ih g2 (Zk hs.1.2) rfl) fun R σ H h=>?_
      exact key R σ H [] (fun _=> .non) (fun w ds vs r er rd hl=>by
       match ds,hl with
       | [d],_=>
        obtain⟨y,rfl,ry⟩:=rds1 rd
        cases er
        exact⟨y,rfl,ry⟩) (fun σD M QD h=>by
       have e:(fun(d:D) (M1:Z3)=>QD [d] M1)=fun d M1=>[d].length=[l].length∧QD [d] M1:=by
        funext d M1
        exact propext ⟨fun z=>⟨rfl,z⟩,fun z=>z.2⟩
       have h':te c Z ee σD M fun(d:D) (M1:Z3)=>QD [d] M1:=h
       rw[e] at h'
       exact h') h
 ·refine PS.imp B2 fun R σ H zz127=>?_
  obtain⟨w,σD,M,RR,S,q,_⟩:=zz127
  rw[Cv] at q
  split at q
  ·rename_i C e;exact(hD ⟨C,e⟩).elim
  ·exact q
end
theorem Z26{k:Ck}{t x:Expr}(h:Zu4 k t x=true):∃n np el gens scope p,t= .Name n np∧x= .ListComp el gens scope p:=by
 cases t with
 | Name n np=>
  cases x with
  | ListComp el gens scope p=>exact⟨_,_,_,_,_,_,rfl,rfl⟩
  | _=>exact absurd h Bool.false_ne_true
 | _=>exact absurd h Bool.false_ne_true
theorem Bi{k:Ck}{t x:Expr}(h:Y92 k t x=true):∃n np el gens scope p,t= .Name n np∧x= .ListComp el gens scope p∧k.sc.names.lookup n=some .cell:=by
 cases t with
 | Name n np=>
  cases x with
  | ListComp el gens scope p=>exact⟨_,_,_,_,_,_,rfl,rfl,Iy h⟩
  | _=>exact absurd h Bool.false_ne_true
 | _=>exact absurd h Bool.false_ne_true
theorem Z19{k:Ck}{p:Pos}(h:chkE k e (.ListComp el gens scope p)=true):
  ∃N' js tg it cd e' t iter ifs,e= .comp N' js tg it cd e'∧gens=[⟨t,iter,ifs,0⟩]:=by
 cases e with
 | comp N' js tg it cd e'=>
  obtain⟨_,_,_,_,he,h⟩:=Cp h
  cases he
  obtain⟨g,rfl,h⟩:=Wr h
  obtain⟨t,iter,ifs,as⟩:=g
  obtain⟨rfl,_⟩:=Zf3 h
  exact⟨_,_,_,_,_,_,_,_,_,rfl,rfl⟩
 | _=>exact absurd h Bool.false_ne_true
theorem Z81(c:Cfg)(tg:List Nat)(e:E):Z48 c (.set tg e):=by
  intro k Z w0 X st G h
  cases st with
  | Assign ts' x pos=>
   match ts',h with
   | [t],h=>
    change (_&&_)=true at h
    simp only[Bool.and_eq_true,Bool.or_eq_true,decide_eq_true_eq] at h
    obtain⟨⟨ht,he⟩,h⟩:=h
    rcases h with(⟨hc,hs⟩ | ⟨hs,hl⟩) | hs
    rotate_left 2
    ·obtain⟨n,np,el,gens,scope,p,rfl,rfl,hcell⟩:=Bi hs
     have h1:swapsWithSole [.Name n np] (.ListComp el gens scope p) pos.line X.env=pure false:=by
      have hk:X.env.kindOf n=some .cell:=by
       unfold Env.kindOf
       rw[G.sc];exact hcell
      have hk':(X.env.kindOf n==some NameKind.local)=false:=by rw[hk];rfl
      unfold swapsWithSole swapsWith
      simp only[hk',Bool.and_false,Bool.false_and]
     refine PS.imp (Zq3 (Zx c e k Z w0 X _ G he).1 (G.tgt tg _ ht) h1 rfl rfl) fun R σ H zz128=>?_
     obtain⟨w,σD,M,RR,S,q,q1,q2,q3,q4⟩:=zz128
     refine Yq S q fun v w' d M' x' r' rd' q'=>?_
     exact⟨w',σD,M',d,_,S.next x' r',rd',q',fun σ' σD' e' z=>q1 σ' w' σD' M' x' r' e' z⟩
    ·have h1:swapsWithSole [t] x pos.line X.env=pure false:=Ej hc
     have h2:swappedStores [t] x X.env=pure none:=by
      cases t with
      | Name n p=>cases x<;>rfl
      | Tuple es kk p=>
       have:Z79 x=true:=hs.resolve_left (by simp[Zr2])
       cases x<;>first | rfl | cases this
      | _=>exact absurd ht Bool.false_ne_true
     have h3:(assignEach [t] X.env).map (·.2)=[assign t X.env]:=by
      cases t with
      | Name n p=>rfl
      | Tuple es kk p=>rfl
      | _=>exact absurd ht Bool.false_ne_true
     refine PS.imp (Zq3 (Zx c e k Z w0 X x G he).1 (G.tgt tg t ht) h1 h2 h3) fun R σ H zz129=>?_
     obtain⟨w,σD,M,RR,S,q,q1,q2,q3,q4⟩:=zz129
     refine Yq S q fun v w' d M' x' r' rd' q'=>?_
     exact⟨w',σD,M',d,_,S.next x' r',rd',q',fun σ' σD' e' z=>q1 σ' w' σD' M' x' r' e' z⟩
    ·match tg,hl,ht with
     | [i],_,ht=>
      obtain⟨n,np,el,gens,scope,p,rfl,rfl⟩:=Z26 hs
      obtain⟨N',js,tg,it,cd,e,t2,iter,ifs,rfl,rfl⟩:=Z19 he
      change (_&&_)=true at he
      simp only[Bool.and_eq_true,decide_eq_true_eq] at he
      obtain⟨⟨⟨⟨⟨⟨⟨⟨h1,h2⟩,h3⟩,h4⟩,h5⟩,h6⟩,h7⟩,h8⟩,h9⟩:=he
      change (_&&_)=true at ht
      simp only[Bool.and_eq_true,beq_iff_eq] at ht
      simp only[Zu4,Bool.and_eq_true,beq_iff_eq,Bool.not_eq_true'] at hs
      obtain⟨⟨⟨s1,s2⟩,s3⟩,s4⟩:=hs
      have hl':X.env.scope.names.lookup n=some .local:=by
       unfold Ck.loc at s2
       rw[G.sc];exact Iy s2
      have hsw:swapsWith (.ListComp el [⟨t2,iter,ifs,0⟩] scope p) (some (.Name n np)) pos.line X.env=pure true:=by
       unfold swapsWith
       have hb:(X.env.blockKind==ScopeKind.function)=true:=by
        unfold Env.blockKind
        rw[G.sc,s1];rfl
       have hk:(X.env.kindOf n==some NameKind.local)=true:=by
        unfold Env.kindOf
        rw[hl'];rfl
       have hp:(np.line==(Expr.ListComp el [⟨t2,iter,ifs,0⟩] scope p).pos.line)=true:=by
        show(np.line==p.line)=true
        rw[s3];simp
       simp only[hb,hk,hp,s4,Bool.not_false,Bool.and_self]
      refine PS.imp ((O8 G h1 h2 h3 h5 (Zb8 c it k Z w0 X t2 iter G h4 h9) h6 h7 h8 (Zx c e) (Ey c cd)).2 i n np pos (by rw[G.N];exact ht.1) hl' hsw) fun R σ H zz130=>?_
      obtain⟨w,σD,M,RR,S,q,q1,q2,q3,q4⟩:=zz130
      have q:te c Z (.comp N' js tg it cd e) σD M fun d M1=>RR.nx (σD.set i (some d)) M1:=q
      refine Yq S q fun v w' d M' x' r' rd' q'=>?_
      exact q1 _ w' _ M' x' r' ((S.env.ext x').set i rd') q'
     | [],hl,_=>simp at hl
     | _::_::_,hl,_=>simp at hl
   | [],h=>exact absurd h Bool.false_ne_true
   | _::_::_,h=>exact absurd h Bool.false_ne_true
  | _=>exact absurd h Bool.false_ne_true
theorem Zc5(c:Cfg)(o i v:E):Z48 c (.put o i v):=by
  intro k Z w0 X st G h
  cases st with
  | Assign ts' x pos=>
   match ts',h with
   | [t],h=>
    cases t with
    | Subscript l r p=>
     change (_&&_)=true at h
     simp only[Bool.and_eq_true] at h
     obtain⟨⟨⟨⟨h1,h2⟩,h3⟩,h4⟩,h5⟩:=h
     refine PS.imp (Yb1 (by have:=G.units;omega) (Zx c o k Z w0 X l G h4).1 (Zx c i k Z w0 X r G h5).1 (Zx c v k Z w0 X x G h3).1 (Ej h2)) fun R σ H zz131=>?_
     obtain⟨w,σD,M,RR,S,q,q1,q2,q3,q4⟩:=zz131
     refine Yq S q fun vv w1 dv M1 x1 r1 rd1 z1=>?_
     refine Yq (S.next x1 r1) z1 fun vo w2 dob M2 x2 r2 rd2 z2=>?_
     refine Yq ((S.next x1 r1).next x2 r2) z2 fun vi w3 di M3 x3 r3 rd3 z3=>?_
     split at z3
     ·obtain⟨hn,rfl⟩:=Y1.mp (rd2.ext x3)
      rcases z3 with⟨xs,kk,j,rfl,y1,y2,y3⟩ | ⟨kvs,kk,y1,y2,y3,y4⟩ | ⟨kvs,ks,y1,rfl,y3,y4⟩
      ·cases Zj.mp rd3
       obtain⟨hn,vs,u1,u2⟩:=r3.list y1
       obtain⟨t1,t2⟩:=Wt r3 hn u1 (u2.set (rd1.ext (x2.trans x3)) j)
       exact .inl ⟨_,vs,kk,j,rfl,rfl,u1,by rw[u2.length];exact y2,q1 σ _ σD _ (((x1.trans x2).trans x3).trans t1) t2 (S.env.ext (((x1.trans x2).trans x3).trans t1)) y3⟩
      ·obtain⟨hn,vs,u1,u2⟩:=r3.dict y1
       cases Pg y2 rd3
       obtain⟨t1,t2⟩:=Oh r3 hn u1 (u2.put (k:=kk) (rd1.ext (x2.trans x3)))
       exact .inr ⟨_,_,rfl,DPut.k (k:=kk) u1 (by rw[u2.length];exact y3),q1 σ _ σD _ (((x1.trans x2).trans x3).trans t1) t2 (S.env.ext (((x1.trans x2).trans x3).trans t1)) y4⟩
      ·obtain⟨hn,vs,u1,u2⟩:=r3.dictP y1
       obtain⟨b,rfl,hb⟩:=Ft rd3
       obtain⟨t1,t2⟩:=Qy r3 hn u1 (u2.put (k:=ks) (rd1.ext (x2.trans x3)))
       exact .inr ⟨_,_,rfl,DPut.t (k:=ks) u1 hb (by rw[u2.length];exact y3),q1 σ _ σD _ (((x1.trans x2).trans x3).trans t1) t2 (S.env.ext (((x1.trans x2).trans x3).trans t1)) y4⟩
     ·exact z3.elim
    | _=>exact absurd h Bool.false_ne_true
   | [],h=>exact absurd h Bool.false_ne_true
   | a::b::r,h=>cases a<;>exact absurd h Bool.false_ne_true
  | _=>exact absurd h Bool.false_ne_true
theorem Bz{k:Ck}{hh:Tk}{f:Nat}{es:Es}{g:Nat}{s:Ss}{st:Stmt}(h:chkS k (.tryN hh f es g s) st=true):∃bs x np s0 ss hp pos,st= .Try [bs] [.ExceptHandler (some (.Name x np)) none (s0::ss) hp] [] [] pos∧
  (k.calm&&k.tries&&k.GN[g]?==some x&&k.glob x&&chkB {k with tries:=false,raises:=[]} hh f es bs&&
   Yj {k with calm:=false,loops:=true,tries:=false,raises:=[]} s (s0::ss))=true:=by
 cases st with
 | Try b hs o f pos=>
  cases b with
  | nil=>exact absurd h Bool.false_ne_true
  | cons b0 b1=>
  cases b1 with
  | cons _ _=>exact absurd h Bool.false_ne_true
  | nil=>
  cases hs with
  | nil=>exact absurd h Bool.false_ne_true
  | cons h0 h1=>
  cases h0 with
  | ExceptHandler ty nm bd hp=>
  cases ty with
  | none=>exact absurd h Bool.false_ne_true
  | some ty=>
  cases ty with
  | Name x np=>
   cases nm with
   | some n=>exact absurd h Bool.false_ne_true
   | none=>
   cases bd with
   | nil=>exact absurd h Bool.false_ne_true
   | cons s0 ss=>
   cases h1 with
   | cons _ _=>exact absurd h Bool.false_ne_true
   | nil=>
   cases o with
   | cons _ _=>exact absurd h Bool.false_ne_true
   | nil=>
   cases f with
   | cons _ _=>exact absurd h Bool.false_ne_true
   | nil=>exact⟨_,_,_,_,_,_,_,rfl,h⟩
  | _=>exact absurd h Bool.false_ne_true
 | _=>exact absurd h Bool.false_ne_true
theorem Fu{k:Ck}{g:Nat}{es:Es}{st:Stmt}(h:chkS k (.raise g es) st=true):∃x np ls cp pos,st= .Raise (some (.Call (.Name x np) ls [] cp)) none pos∧
  (k.calm&&k.raises.contains g&&k.GN[g]?==some x&&k.glob x&&decide (ls.length≤1)&&V0 k es ls)=true:=by
 cases st with
 | Raise ex ca pos=>
  cases ex with
  | none=>exact absurd h Bool.false_ne_true
  | some ex=>
  cases ex with
  | Call fn ls ks cp=>
   cases fn with
   | Name x np=>
    cases ks with
    | cons _ _=>exact absurd h Bool.false_ne_true
    | nil=>
    cases ca with
    | some _=>exact absurd h Bool.false_ne_true
    | none=>exact⟨_,_,_,_,_,rfl,h⟩
   | _=>exact absurd h Bool.false_ne_true
  | _=>exact absurd h Bool.false_ne_true
 | _=>exact absurd h Bool.false_ne_true
mutual
theorem Y61(c:Cfg):∀s:S,Z48 c s
 | .ret e,k,Z,w0,X,st,G,h=>by
  cases st with
  | Return v pos=>
   cases v with
   | some x=>exact PS.imp (Y69 (Zx c e k Z w0 X x G h).1) fun R σ H zz132=>by obtain⟨w,σD,M,RR,S,q,h1,h2,h3,h4⟩:=zz132;exact Yq S q h2
   | none=>exact absurd h Bool.false_ne_true
  | _=>exact absurd h Bool.false_ne_true
 | .expr e,k,Z,w0,X,st,G,h=>by
  cases st with
  | Expr x pos=>
   change (_&&_)=true at h
   simp only[Bool.and_eq_true] at h
   exact PS.imp (Zx4 (Zx c e k Z w0 X x G h.2).1 (Ej h.1)) fun R σ H zz133=>by obtain⟨w,σD,M,RR,S,q,h1,h2,h3,h4⟩:=zz133;exact Yq S q fun v w' d M' x' r' rd' q'=>h1 σ w' σD M' x' r' (S.env.ext x') q'
  | _=>exact absurd h Bool.false_ne_true
 | .set tg e,k,Z,w0,X,st,G,h=>Z81 c tg e k Z w0 X st G h
 | .put o i v,k,Z,w0,X,st,G,h=>Zc5 c o i v k Z w0 X st G h
 | .ite t a b,k,Z,w0,X,st,G,h=>by
  cases st with
  | If x ls rs pos=>
   change (_&&_)=true at h
   simp only[Bool.and_eq_true] at h
   obtain⟨⟨⟨h1,h2⟩,h3⟩,h4⟩:=h
   refine PS.imp (Yh2 ((Zx c t k Z w0 X x G h1).2 h2) (V5 c a k Z w0 X ls G h3) (V5 c b k Z w0 X rs G h4)) fun R σ H zz134=>?_
   obtain⟨w,σD,M,RR,S,q,q1,q2,q3,q4⟩:=zz134
   refine⟨w,σD,M,_,S,q,fun z w1 M1 x1 r1 y1=>?_⟩
   have fin:∀{f:DS},f RR σD M1→tFS w0 f R σ w1.H:=fun hf=>Px (S.next x1 r1) hf (fun σ' w' σD' M' x' r' e' z=>q1 σ' w' σD' M' (x1.trans x') r' e' z) (q2.ext x1)
    (fun σ' w' σD' M' x' r' e' z=>q3 σ' w' σD' M' (x1.trans x') r' e' z) (fun σ' w' σD' M' x' r' e' z=>q4 σ' w' σD' M' (x1.trans x') r' e' z)
   cases z with
   | true=>
    rw[if_pos rfl] at y1
    show if (true:Bool)=true then _ else _
    rw[if_pos rfl];exact fin y1
   | false=>
    rw[if_neg Bool.false_ne_true] at y1
    show if (false:Bool)=true then _ else _
    rw[if_neg Bool.false_ne_true];exact fin y1
  | _=>exact absurd h Bool.false_ne_true
 | .for_ tg it b,k,Z,w0,X,st,G,h=>by
  cases st with
  | For t x ls els pos=>
   cases els with
   | nil=>
    change (_&&_)=true at h
    simp only[Bool.and_eq_true] at h
    obtain⟨⟨⟨⟨⟨⟨h1,h2⟩,h3⟩,h4⟩,h5⟩,h6⟩,h7⟩:=h
    have hf:∀v,foldedSetIterable x X.env v=pure v:=by
     intro v
     cases x<;>first | rfl | cases h3
    refine PS.imp (Zr3 (G.po h2) (G.calm h1) (Zb8 c it k Z w0 X t x G h5 h7) (G.tgt tg t h4) (V5 c b k Z w0 X ls G h6) hf) fun R σ H zz135=>?_
    obtain⟨w,σD,M,RR,S,q,q1,q2,q3,q4⟩:=zz135
    refine⟨w,σD,M,_,S,q,fun J w1 own xs M1 x1 r1 jk z=>?_⟩
    exact Z65 (S.next x1 r1) jk z (fun σ' w' σD' M' x' r' e' z=>q1 σ' w' σD' M' (x1.trans x') r' e' z) (q2.ext x1)
   | cons _ _=>exact absurd h Bool.false_ne_true
  | _=>exact absurd h Bool.false_ne_true
 | .forK tg e b,k,Z,w0,X,st,G,h=>by
  cases st with
  | For t x ls els pos=>
   cases els with
   | nil=>
    change (_&&_)=true at h
    simp only[Bool.and_eq_true] at h
    obtain⟨⟨⟨⟨⟨h1,h2⟩,h3⟩,h4⟩,h5⟩,h6⟩:=h
    have hf:∀v,foldedSetIterable x X.env v=pure v:=by
     intro v
     cases x<;>first | rfl | cases h3
    refine PS.imp (Y00 (Zr3 (G.po h2) (G.calm h1) (Zy4 (Zx c e k Z w0 X x G h5).1) (G.tgt tg t h4) (V5 c b k Z w0 X ls G h6) hf)) fun R σ H zz136=>?_
    obtain⟨w,σD,M,RR,S,q,q1,q2,q3,q4⟩:=zz136
    refine Yq S q fun v w1 d M1 x1 r1 rd1 z=>?_
    split at z
    ·obtain⟨hn,rfl⟩:=Y1.mp rd1
     obtain⟨kvs,z1,z2⟩:=z
     obtain⟨hM,vs,y1,y2⟩:=r1.dict z1
     refine⟨_,vs,rfl,y1,fun o nf=>?_⟩
     rename_i _ n
     have x2:Ext w1 (w1.alloc (w1.μ n) (.frz o (.dK vs))):=Xy y1 rfl
     have r2:RS (w1.alloc (w1.μ n) (.frz o (.dK vs))) (M1.set n (.fdc kvs)):=r1.write hM rfl rfl y1 rfl ⟨o,vs,Zs,y2.ext x2⟩
     refine Z65 (R:=Y34 X R) (S.next (x1.trans x2) r2) (Zo0 (w1:=w1.alloc (w1.μ n) (.frz o (.dK vs))) (n:=n) hn Zs) z2 (fun σ' w' σD' M' x' r' e' ⟨kvs',t1,t2⟩=>?_) (fun v w' d M' x' r' rd' ⟨kvs',t1,t2⟩=>?_)
     ·obtain⟨a1,a2,a3,a4⟩:=Gh hn y1 x' r' t1
      exact⟨_,o,vs,a1,nf,q1 σ' _ σD' _ (x1.trans a2) a4 (e'.ext0 a3) t2⟩
     ·obtain⟨a1,a2,a3,a4⟩:=Gh hn y1 x' r' t1
      exact⟨_,o,vs,a1,nf,q2 v _ d _ (x1.trans a2) a4 (rd'.ext0 a3) t2⟩
    ·exact z.elim
   | cons _ _=>exact absurd h Bool.false_ne_true
  | _=>exact absurd h Bool.false_ne_true
 | .while_ t b,k,Z,w0,X,st,G,h=>by
  cases st with
  | While x ls els pos=>
   cases els with
   | nil=>
    change (_&&_)=true at h
    simp only[Bool.and_eq_true] at h
    obtain⟨⟨⟨h1,h2⟩,h3⟩,h4⟩:=h
    refine PS.imp (Zj6 (G.po h1) ((Zx c t k Z w0 X x G h2).2 h3) (V5 c b k Z w0 X ls G h4)) fun R σ H zz139=>?_
    obtain⟨w,σD,M,RR,S,q,q1,q2,q3,q4⟩:=zz139
    obtain⟨W,⟨m0,hm0⟩,step⟩:=q
    refine⟨fun m σ H=>∃w2 σE M2,StOk w0 w2 σE M2 σ H∧Ext w w2∧W m σE M2,⟨m0,w,σD,M,S,Ext.refl w,hm0⟩,?_⟩
    rintro m σ2 H2 ⟨w2,σE,M2,S2,x2,hW⟩
    refine⟨w2,σE,M2,_,S2,step m σE M2 hW,fun z w3 M3 x3 r3 y3=>?_⟩
    cases z with
    | false=>
     rw[if_neg Bool.false_ne_true] at y3 ⊢
     exact q1 σ2 w3 σE M3 (x2.trans x3) r3 (S2.env.ext x3) y3
    | true=>
     rw[if_pos rfl] at y3 ⊢
     have nxt:∀σ' w' σD' M',Ext w3 w'→RS w' M'→REnv w' σD' σ'→(∃m',m'<m∧W m' σD' M')→∃m',m'<m∧∃w2 σE M2,StOk w0 w2 σE M2 σ' w'.H∧Ext w w2∧W m' σE M2:=
      fun σ' w' σD' M' x' r' e' zz140=>by obtain⟨m',l',z'⟩:=zz140;exact⟨m',l',w',σD',M',⟨rfl,(S2.ext.trans x3).trans x',r',e'⟩,(x2.trans x3).trans x',z'⟩
     refine⟨fun σ' H'=>∃m',m'<m∧∃w2 σE M2,StOk w0 w2 σE M2 σ' H'∧Ext w w2∧W m' σE M2,fun σ' H' z=>z,?_⟩
     exact Px (S2.next x3 r3) y3 nxt (fun v w' d M' x' r' rd' z'=>q2 v w' d M' ((x2.trans x3).trans x') r' rd' z') (fun σ' w' σD' M' x' r' e' z'=>q1 σ' w' σD' M' ((x2.trans x3).trans x') r' e' z') nxt
   | cons _ _=>exact absurd h Bool.false_ne_true
  | _=>exact absurd h Bool.false_ne_true
 | .raise g es,k,Z,w0,X,st,G,h=>by
  obtain⟨x,np,ls,cp,pos,rfl,hs⟩:=Fu h
  simp only[Bool.and_eq_true,beq_iff_eq,decide_eq_true_eq] at hs
  obtain⟨⟨⟨⟨⟨h1,h2⟩,h3⟩,h4⟩,h5⟩,h6⟩:=hs
  exact E5 G h1 h2 h3 h4 h5 h6 (Wd c es k Z w0 X ls G h6).1
 | .tryN hh f es g s,k,Z,w0,X,st,G,h=>by
  obtain⟨bs,x,np,s0,ss,hp,pos,rfl,hs⟩:=Bz h
  simp only[Bool.and_eq_true,beq_iff_eq] at hs
  obtain⟨⟨⟨⟨⟨h1,h2⟩,h3⟩,h4⟩,h7⟩,h8⟩:=hs
  exact Z34 G h1 h2 h3 h4 h7 h8 (V5 c s)
theorem V5(c:Cfg):∀s:Ss,Zb6 c s
 | .nil,k,Z,w0,X,st,G,h=>by
  cases st with
  | nil=>
   refine PSs.imp Zd1 fun R σ H zz141=>?_
   obtain⟨w,σD,M,RR,S,q,h1,_⟩:=zz141
   have:=h1 σ w σD M (Ext.refl w) S.rs S.env q
   rw[S.heap] at this
   exact this
  | cons _ _=>exact absurd h Bool.false_ne_true
 | .cons s r,k,Z,w0,X,st,G,h=>by
  cases st with
  | nil=>exact absurd h Bool.false_ne_true
  | cons x xs=>
   change (_&&_)=true at h
   simp only[Bool.and_eq_true] at h
   refine PSs.imp (Ev (Y61 c s k Z w0 X x G h.1) (V5 c r k Z w0 X xs G h.2)) fun R σ H zz142=>?_
   obtain⟨w,σD,M,RR,S,q,h1,h2,h3,h4⟩:=zz142
   refine Px S q ?_ h2 h3 h4
   intro σ' w' σD' M' x' r' e' q'
   exact Px ⟨rfl,S.ext.trans x',r',e'⟩ q' (fun σ2 w2 σD2 M2 x2 r2 e2 z=>h1 σ2 w2 σD2 M2 (x'.trans x2) r2 e2 z) (h2.ext x') (fun σ2 w2 σD2 M2 x2 r2 e2 z=>h3 σ2 w2 σD2 M2 (x'.trans x2) r2 e2 z) (fun σ2 w2 σD2 M2 x2 r2 e2 z=>h4 σ2 w2 σD2 M2 (x'.trans x2) r2 e2 z)
end
theorem FnOk.cx{K:Ab}{k:Nat}(F:FnOk P w K mg base CX0 k f fd ps sp):FnOk P w K mg base CX k f fd ps sp:=
 ⟨F.len,fun A outer s H args us vs Q E hr he hb hv hs=>Ix (F.run A outer s H args us vs Q E hr he hb hv hs) fun r s' h=>by
  cases r with
  | error e=>exact De h
  | ok fl=>cases fl<;>exact h⟩
structure Prg(P:Program)(w:World)(K:Ab)(mg:Str→Option Value)(base:Heap)(c:Cfg)(FN GN BN:List Str)(lv:Nat):Prop where
 hK:c.K=K
 fns:∀(f:Nat) (x:Str) (sp:DSp),FN[f]?=some x→c.Γ[f]?=some sp→∃(kk:Nat) (f:Addr) (fd:FuncData) (ps:List Str) (ds:List Value) (dvs:List V) (dD:List D) (sp0:DSp),FnOk P w K mg base (CX1 P w) kk f fd ps (spF K sp0)∧kk≤lv∧mg x=some (.ref f)∧Ad K (.ref f)=true∧
  Zu K fd ps ds∧Vals dvs ds∧(∀w:Vw,w.K=K→RDs w dD dvs)∧∀as M Q Z,sp as M Q Z→sp0 (as++dD) M Q Z
 flen:FN.length=c.Γ.length
 glb:∀(g:Nat) (x:Str) (d:D),GN[g]?=some x→c.G[g]?=some d→∃v u,mg x=some u∧RelV v u∧∀w:Vw,w.K=K→RD w d v
 blt:∀x,x∈BN→mg x=none
noncomputable def start0(N:List Str)(ds:List D):DEnv:=ds.map some++Df (N.length - ds.length) none
theorem Fh(r:RDs w ds vs):REnv w (start0 N ds) (L2.start N vs):=by
 refine⟨by unfold start0 L2.start;simp[r.length],fun i d e=>?_⟩
 unfold start0 at e
 unfold L2.start
 by_cases hi:i<ds.length
 ·rw[Di (by simpa using hi),Ax] at e
  rw[Di (by rw[Ah,r.length];exact hi),Ax]
  cases hd:ds[i]? with
  | none=>rw[hd] at e;cases e
  | some d'=>
   rw[hd] at e
   have e':d'=d:=by simpa using e
   subst e'
   obtain⟨v,q1,q2⟩:=r.get hd
   exact⟨v,by rw[q1];rfl,q2⟩
 ·rw[Dk (by simpa using hi)] at e
  have:=Af.mp e
  simp at this
section
variable{P:Program}{w:World}{K:Ab}{mg:Str→Option Value}{base:Heap}{c:Cfg}{FN GN BN:List Str}{lv:Nat}{x qual:Str}{st:Stmt}{f:Addr}{fd:FuncData}{N ps:List Str}
noncomputable abbrev ck0(N:List Str)(st:Stmt)(FN GN BN:List Str):Ck:=⟨N,Z1 st,FN,GN,BN,true,true,true,[],true,[]⟩
noncomputable abbrev ck1(rs:List Nat)(N:List Str)(st:Stmt)(FN GN BN:List Str):Ck:=⟨N,Z1 st,FN,GN,BN,true,true,true,rs,true,[]⟩
theorem fn0(Pr:Prg P w K mg base c FN GN BN lv)(F:Fun K x qual st f fd)(S:FnScope N ps (Z1 st)){body:Ss}(hc:Yj (ck0 N st FN GN BN) body (Z4 st)=true){sp:DSp}(hl:∀ds M Q Z,sp ds M Q Z→ds.length=ps.length)
  (hb:∀ds M Q Z,sp ds M Q Z→tss c noX body {nx:=fun _ M=>Q .non M,rt:=Q} (start0 N ds) M):FnOk P w K mg base (CX1 P w) (lv+1) f fd ps (spF K sp):=by
 refine FnOk.cx (F.ok S (fun vs H Q E h=>?_) fun cdv A outer s H vs Q E hr h=>?_)
 ·obtain⟨w,ds,M,QD,Z,_,_,_,r,h,_⟩:=h
  rw[r.length];exact hl _ _ _ _ h
 obtain⟨w',ds,M,QD,Z,hK',rfl,R,r,h,a,xk⟩:=h
 have G:Good c (ck0 N st FN GN BN) noX w' (cxOf CX0 P w K mg base N qual (Z1 st) f cdv A outer s w'.H E).nox:=
  {hK:=Pr.hK.symm
   wK:=hK'.trans Pr.hK.symm
   N:=rfl
   nd:=S.nd
   sc:=rfl
   calm:=fun _=>rfl
   units:=hr.units
   fns:=fun _ f x sp h1 h2=>by
    obtain⟨kk,f,fd,ps,ds,dvs,dD,sp0,F,hk,h⟩:=Pr.fns f x sp h1 h2
    exact⟨kk,f,fd,ps,ds,dvs,dD,sp0,F,hr.mono hk,h⟩
   flen:=Pr.flen
   glb:=Pr.glb
   blt:=Pr.blt
   exc:=⟨E0,fun _ _ _ _ _ _ _ h=>by
    obtain⟨_,_,_,_,_,_,_,_,_,_,_,_,_,_,_,h⟩:=h
    exact h.elim,fun cls dd H' h=>by
    obtain⟨_,_,_,_,_,_,_,_,_,_,_,_,_,h⟩:=h
    exact h.elim⟩
   stk:=fun _=>⟨rfl,rfl⟩
   rai:=fun _ h=>absurd h Bool.false_ne_true
   po:=fun _=>PassesOwn.never
   fnc:=fun _ _=>rfl
   fno:=fun _ h=>by cases h}
 refine⟨_,V5 c body _ _ w' _ _ G hc,w',start0 N ds,M,{nx:=fun _ M=>QD .non M,rt:=QD},⟨rfl,Ext.refl w',R,Fh r⟩,hb _ _ _ _ h,?_,a,?_,?_⟩
 ·exact fun σ' w2 σD' M' x' r' e' q'=>a .non w2 .non M' x' r' (Xv.mpr rfl) q'
 ·exact fun σ' w2 σD' M' x' r' e' q'=>q'.elim
 ·exact fun σ' w2 σD' M' x' r' e' q'=>q'.elim
def PrgR(P:Program)(w:World)(K:Ab)(mg:Str→Option Value)(base:Heap)(c:Cfg)(rs:List Nat)(lv:Nat):Prop:=∀g:Nat,rs.contains g=true→∀C:Addr,c.G[g]?=some (.cls C)→∃(kk:Nat) (f:Addr) (fd:FuncData),ExcMk K C f∧FnOk P w K mg base CX0 kk f fd ["self","row"] (Of K)∧kk+1≤lv∧
 Zu K fd ["self","row"] [.none]∧Zu K fd ["self","row"] []∧ExcSet K C "row"
theorem fn1(Pr:Prg P w K mg base c FN GN BN lv){rs:List Nat}(Rr:PrgR P w K mg base c rs lv)(F:Fun K x qual st f fd)(S:FnScope N ps (Z1 st)){body:Ss}(hc:Yj (ck1 rs N st FN GN BN) body (Z4 st)=true){sp:DSp}(hl:∀ds M Q Z,sp ds M Q Z→ds.length=ps.length)
  (hb:∀ds M Q Z,sp ds M Q Z→tss c Z body {nx:=fun _ M=>Q .non M,rt:=Q} (start0 N ds) M):FnOk P w K mg base (CX1 P w) (lv+1) f fd ps (spF K sp):=by
 refine Zy6 F S (fun vs H Q E h=>?_) fun cdv A outer s H vs Q E hr h=>?_
 ·obtain⟨w,ds,M,QD,Z,_,_,_,r,h,_⟩:=h
  rw[r.length];exact hl _ _ _ _ h
 obtain⟨w',ds,M,QD,Z,hK',rfl,R,r,h,a,xk⟩:=h
 have G:Good c (ck1 rs N st FN GN BN) Z w' (cxOf (CX1 P w) P w K mg base N qual (Z1 st) f cdv A outer s w'.H E):=
  {hK:=Pr.hK.symm
   wK:=hK'.trans Pr.hK.symm
   N:=rfl
   nd:=S.nd
   sc:=rfl
   calm:=fun _=>rfl
   units:=hr.units
   fns:=fun _ f x sp h1 h2=>by
    obtain⟨kk,f,fd,ps,ds,dvs,dD,sp0,F,hk,h⟩:=Pr.fns f x sp h1 h2
    exact⟨kk,f,fd,ps,ds,dvs,dD,sp0,F,hr.mono hk,h⟩
   flen:=Pr.flen
   glb:=Pr.glb
   blt:=Pr.blt
   exc:=⟨E,Yh4 Jg,xk⟩
   stk:=fun _=>⟨rfl,rfl⟩
   rai:=fun g hm=>⟨⟨E,Jg,xk⟩,fun C hg=>by
    obtain⟨kk,f,fd,h1,h2,h3,h4,h5,h6⟩:=Rr g hm C hg
    exact⟨kk,f,fd,h1,h2,hr.mono h3,h4,h5,h6⟩⟩
   po:=fun _=>PassesOwn.leaving
   fnc:=fun _ _=>rfl
   fno:=fun _ h=>by cases h}
 refine⟨_,V5 c body _ _ w' _ _ G hc,w',start0 N ds,M,{nx:=fun _ M=>QD .non M,rt:=QD},⟨rfl,Ext.refl w',R,Fh r⟩,hb _ _ _ _ h,?_,a,?_,?_⟩
 ·exact fun σ' w2 σD' M' x' r' e' q'=>a .non w2 .non M' x' r' (Xv.mpr rfl) q'
 ·exact fun σ' w2 σD' M' x' r' e' q'=>q'.elim
 ·exact fun σ' w2 σD' M' x' r' e' q'=>q'.elim
end
def Bt:DSp:=fun ds M Q _=>∃ns:List Int,ds=[.ref 0]∧M=[.frz (ns.map .int)]∧ns.length≤63∧(∀i∈ns,Bits bigN i)∧∀M',Q (.bl true) M'
theorem Er(w:Vw):∀ns:List Int,RDs w (ns.map .int) (ns.map V.int)
 | []=>RDs.nil w
 | _::r=>RDs.cons (Zj.mpr rfl) (Er w r)
theorem Zh6{l:PySem.W.OpenLaw}{k:Nat}{q:Program}{loose:List Str}{XP:(Str→Option Value)→Heap→Prop}{YP:World→Heap→Prop}{d:DefRec}{K:Params→Ab}{x:Str}(hn:l.most=some 63)(hdf:d.params.defaults=[])(hr:Room k callerA)
  (hY:∀(w:World) (h:Heap),YP w h→(K w.params).In h)
  (F:∀(w:World) (mg:Str→Option Value) (fa:Addr) (h:Heap),(K w.params).In h→h.Ns mainGlobals mg→mg d.name=some (.ref fa)→
   ∃fd:FuncData,(∀(s:Shared) (u:Value),BindsTo s fd ⟨[u],[]⟩ [(x,u)])∧∀base:Heap,(K w.params).In base→base.Ns mainGlobals mg→FnOk l.prog w (K w.params) mg base (CX1 l.prog w) k fa fd [x] (spF (K w.params) Bt)):
  PySem.W.WalkO q loose XP YP l.row.toRowW d [] (fun f vs=>PySem.call f vs):=by
 refine Y54 (n:=63) (k:=k) (x:=x) (CX:=fun w=>CX1 l.prog w) (sp:=fun w=>spF (K w.params) Bt) hn (by decide) hdf hr hY F (fun w H a ns hl hb hO hS=>?_) fun w H s e s' h=>?_
 ·have hF:SqF (K w.params) H a (ns.map V.int):=by
   rcases hS with(h | ⟨o,h⟩) | h
   ·rcases hO a with z | ⟨o,xs,z⟩
    ·rw[z] at h;cases h
    ·rw[z] at h;cases h
   ·exact .inl ⟨o,h⟩
   ·exact .inr (.inr h)
  refine⟨⟨K w.params,H,fun _=>a,1⟩,[.ref 0],[.frz (ns.map .int)],fun d _=>d= .bl true,noX,rfl,rfl,⟨rfl,fun i j ci cj ei ej mi mj _=>?_,fun i c' e=>?_⟩,RDs.cons (Y1.mpr ⟨Nat.one_pos,rfl⟩) (RDs.nil _),⟨ns,rfl,rfl,hl,hb,fun _=>rfl⟩,fun v w' d M' _ _ rd e=>?_,fun cls dd H' h=>?_⟩
  ·have h1:=(Af.mp ei).1
   have h2:=(Af.mp ej).1
   simp at h1 h2
   omega
  ·have h1:=(Af.mp e).1
   have hi:i=0:=by simp at h1;exact h1
   subst hi
   simp at e
   subst e
   exact⟨_,hF,Er _ ns⟩
  ·subst e
   exact Ww.mp rd
  ·obtain⟨_,_,_,_,_,_,_,_,_,_,_,_,_,h⟩:=h
   exact h.elim
 ·obtain⟨_,_,_,_,_,_,_,_,_,_,_,_,_,_,_,h⟩:=h
  exact h.elim
def bot:DSp:=fun _ _ _ _=>False
def Ent(K:Ab)(mg:Str→Option Value)(x:Str):Prop:=∃(f:Addr) (fd:FuncData) (ps:List Str),mg x=some (.ref f)∧Ad K (.ref f)=true∧Zu K fd ps []
section
variable{P:Program}{w:World}{K:Ab}{mg:Str→Option Value}{base:Heap}{Γ:List DSp}{G:List D}{FN GN BN:List Str}{lv:Nat}
theorem Prg.zero(hF:∀x∈FN,Ent K mg x)(hl:FN.length=Γ.length)(hb:∀sp∈Γ,sp=bot)(hg:∀(g:Nat) (x:Str) (d:D),GN[g]?=some x→G[g]?=some d→∃v u,mg x=some u∧RelV v u∧∀w:Vw,w.K=K→RD w d v)(hB:∀x∈BN,mg x=none):
  Prg P w K mg base ⟨K,Γ,G⟩ FN GN BN 0 where
 hK:=rfl
 fns:=fun f x sp h1 h2=>by
  obtain⟨fa,fd,ps,e1,e2,e3⟩:=hF x (Hb h1)
  have hs:sp=bot:=hb sp (Hb h2)
  subst hs
  have no:∀vs H Q E,¬spF K bot vs H Q E:=fun vs H Q E zz143=>by obtain⟨_,_,_,_,_,_,_,_,_,h,_⟩:=zz143;exact h
  exact⟨0,fa,fd,ps,[],[],[],bot,⟨fun vs H Q E h=>absurd h (no vs H Q E),fun A outer s H args us vs Q E _ _ _ _ h=>absurd h (no vs H Q E)⟩,Nat.le_refl _,e1,e2,e3,.nil,fun w _=>RDs.nil w,fun _ _ _ _ h=>h.elim⟩
 flen:=hl
 glb:=hg
 blt:=hB
theorem Prg.addD(Pr:Prg P w K mg base ⟨K,Γ,G⟩ FN GN BN lv)(n:Nat){x:Str}(hx:FN[n]?=some x)(F:FnOk P w K mg base (CX1 P w) kk f fd ps (spF K sp0))(h1:kk≤lv')(h2:lv≤lv')(hm:mg x=some (.ref f))(hk:Ad K (.ref f)=true)(hb:Zu K fd ps ds)
  (hv:Vals dvs ds) (hd:∀w:Vw,w.K=K→RDs w dD dvs):Prg P w K mg base ⟨K,Γ.set n (fun as M Q Z=>sp0 (as++dD) M Q Z),G⟩ FN GN BN lv' where
 hK:=rfl
 fns:=fun m y sp' e1 e2=>by
  by_cases hmn:n=m
  ·subst hmn
   rw[hx] at e1
   cases e1
   have hl:n<Γ.length:=by rw[←Pr.flen];exact(Af.mp hx).1
   have e2:(Γ.set n (fun as M Q Z=>sp0 (as++dD) M Q Z))[n]?=some sp':=e2
   rw[Dq hl] at e2
   cases e2
   exact⟨kk,f,fd,ps,ds,dvs,dD,sp0,F,h1,hm,hk,hb,hv,hd,fun as M Q Z h=>h⟩
  ·have e2:(Γ.set n (fun as M Q Z=>sp0 (as++dD) M Q Z))[m]?=some sp':=e2
   rw[Dh hmn] at e2
   obtain⟨kk,f,fd,ps,ds,dvs,dD,sp1,F,hk,h⟩:=Pr.fns m y sp' e1 e2
   exact⟨kk,f,fd,ps,ds,dvs,dD,sp1,F,Nat.le_trans hk h2,h⟩
 flen:=by rw[Pr.flen];simp
 glb:=Pr.glb
 blt:=Pr.blt
theorem Prg.add(Pr:Prg P w K mg base ⟨K,Γ,G⟩ FN GN BN lv)(n:Nat){x:Str}(hx:FN[n]?=some x)(F:FnOk P w K mg base (CX1 P w) kk f fd ps (spF K sp))(h1:kk≤lv')(h2:lv≤lv')(hm:mg x=some (.ref f))(hk:Ad K (.ref f)=true)(hb:Zu K fd ps []):
  Prg P w K mg base ⟨K,Γ.set n sp,G⟩ FN GN BN lv' where
 hK:=rfl
 fns:=fun m y sp' e1 e2=>by
  by_cases hmn:n=m
  ·subst hmn
   rw[hx] at e1
   cases e1
   have hl:n<Γ.length:=by rw[←Pr.flen];exact(Af.mp hx).1
   have e2:(Γ.set n sp)[n]?=some sp':=e2
   rw[Dq hl] at e2
   cases e2
   exact⟨kk,f,fd,ps,[],[],[],sp,F,h1,hm,hk,hb,.nil,fun w _=>RDs.nil w,fun as M Q Z h=>by rw[Dn];exact h⟩
  ·have e2:(Γ.set n sp)[m]?=some sp':=e2
   rw[Dh hmn] at e2
   obtain⟨kk,f,fd,ps,ds,dvs,dD,sp0,F,hk,h⟩:=Pr.fns m y sp' e1 e2
   exact⟨kk,f,fd,ps,ds,dvs,dD,sp0,F,Nat.le_trans hk h2,h⟩
 flen:=by rw[Pr.flen];simp
 glb:=Pr.glb
 blt:=Pr.blt
end
theorem Y6{a:Nat}(h:Zo M a=some xs):Zo (M++N) a=some xs:=by
 unfold Zo at *
 have ha:a<M.length:=by
  cases e:M[a]? with
  | none=>rw[e] at h;cases h
  | some c=>exact(Af.mp e).1
 rw[Di ha];exact h
theorem Zp{a:Nat}(h:Zf M a=some xs):Zf (M++N) a=some xs:=by
 unfold Zf at *
 have ha:a<M.length:=by
  cases e:M[a]? with
  | none=>rw[e] at h;cases h
  | some c=>exact(Af.mp e).1
 rw[Di ha];exact h
theorem T4{a:Nat}(h:Zq M a=some xs):Zq (M++N) a=some xs:=by
 unfold Zq at *
 have ha:a<M.length:=by
  cases e:M[a]? with
  | none=>rw[e] at h;cases h
  | some c=>exact(Af.mp e).1
 rw[Di ha];exact h
theorem Za1{a:Nat}(h:Xq M a=some xs):Xq (M++N) a=some xs:=by
 unfold Xq at *
 have ha:a<M.length:=by
  cases e:M[a]? with
  | none=>rw[e] at h;cases h
  | some c=>exact(Af.mp e).1
 rw[Di ha];exact h
theorem Cf(M:Z3)(c:Cell)(N:Z3):(M++c::N)[M.length]?=some c:=by simp
theorem Z71(M N:Z3)(k:Nat):(M++N)[M.length+k]?=N[k]?:=by rw[Dk (by omega)];congr 1;omega
theorem Yr(M:Z3)(xs:List D)(N:Z3):Zo (M++ .lst xs::N) M.length=some xs:=by unfold Zo;rw[Cf]
theorem Zd(M:Z3)(xs:List D)(N:Z3):Zf (M++ .lst xs::N) M.length=some xs:=by unfold Zf;rw[Cf]
theorem Yx(M:Z3)(xs:List (Key×D))(N:Z3):Zq (M++ .dct xs::N) M.length=some xs:=by unfold Zq;rw[Cf]
theorem Ra(M N:Z3)(k:Nat):Zf (M++N) (M.length+k)=Zf N k:=by unfold Zf;rw[Z71]
theorem Z35(M N:Z3)(k:Nat):Zq (M++N) (M.length+k)=Zq N k:=by unfold Zq;rw[Z71]
theorem Xl(M:Z3)(c d:Cell)(N:Z3):(M++c::N).set M.length d=M++d::N:=by
 rw[List.set_append_right _ _ (Nat.le_refl _)];simp
theorem Rz(M N:Z3)(k:Nat)(d:Cell):(M++N).set (M.length+k) d=M++N.set k d:=by
 rw[List.set_append_right _ _ (by omega)];congr 2;omega
theorem Z2{n:Nat}(h:Zf M n=some xs):Zo M n=some xs:=Zy0 h
theorem X9{a b:Nat}(h:b≠a):Zf (M.set b c) a=Zf M a:=by unfold Zf;rw[Dh h]
theorem Ju{a b:Nat}(h:b≠a):Zq (M.set b c) a=Zq M a:=by unfold Zq;rw[Dh h]
theorem Np{n:Nat}(h:Zq M n=some xs):n<M.length:=by
 unfold Zq at h
 cases e:M[n]? with
 | none=>rw[e] at h;cases h
 | some c=>exact(Af.mp e).1
theorem Qj{lo:Int}{n i:Nat}(h:i<n):(Pq lo n)[i]?=some (.int (lo+i)):=by
 unfold Pq;rw[Ax,List.getElem?_range h];rfl
theorem Xb(lo:Int)(n:Nat):(Pq lo n).length=n:=by unfold Pq;simp
theorem Tt{own:Own}{xs:List D}{tg:List Nat}{body:DS}{R:DEnds}{σ:DEnv}{M:Z3}(I:Nat→DEnv→Z3→Prop)(h0:I 0 σ M)(hs:∀i σ M,i≤xs.length→I i σ M→Pl own xs M)
  (step:∀(i:Nat) (d:D) σ M (C:DEnv→Z3→Prop),xs[i]?=some d→I i σ M→(∀σ2 M2,I (i+1) σ2 M2→C σ2 M2)→tgD tg d σ fun σ'=>body {nx:=C,rt:=R.rt,bk:=R.nx,ct:=C} σ' M)
  (fin:∀σ M,I xs.length σ M→R.nx σ M):forD own xs tg body xs R σ M:=by
 have key:∀(j:Nat) σ M,j≤xs.length→I (xs.length - j) σ M→forD own xs tg body (xs.drop (xs.length - j)) R σ M:=by
  intro j
  induction j with
  | zero=>
   intro σ M _ h
   rw[Nat.sub_zero] at h ⊢
   rw[List.drop_length]
   exact⟨hs _ σ M (Nat.le_refl _) h,fin σ M h⟩
  | succ j ih=>
   intro σ M hj h
   have hi:xs.length - (j+1)<xs.length:=by omega
   have e:xs.length - (j+1)+1=xs.length - j:=by omega
   rw[Hn hi]
   refine⟨hs _ σ M (by omega) h,step _ _ σ M _ (Ai hi) h fun σ2 M2 h2=>?_⟩
   rw[e] at h2 ⊢
   exact ih σ2 M2 (by omega) h2
 have:=key xs.length σ M (Nat.le_refl _) (by rw[Nat.sub_self];exact h0)
 rw[Nat.sub_self] at this
 exact this
theorem J1{lo:Int}{n:Nat}{tg:List Nat}{body:DS}{R:DEnds}{σ:DEnv}{M:Z3}(I:Nat→DEnv→Z3→Prop)(h0:I 0 σ M)
  (step:∀(i:Nat) σ M (C:DEnv→Z3→Prop),i<n→I i σ M→(∀σ2 M2,I (i+1) σ2 M2→C σ2 M2)→tgD tg (.int (lo+i)) σ fun σ'=>body {nx:=C,rt:=R.rt,bk:=R.nx,ct:=C} σ' M)
  (fin:∀σ M,I n σ M→R.nx σ M):forD .no (Pq lo n) tg body (Pq lo n) R σ M:=by
 refine Tt I h0 (fun _ _ _ _ _=>trivial) (fun i d σ M C hd hI hC=>?_) (fun σ M h=>fin σ M (by rw[Xb] at h;exact h))
 have hi:i<n:=by
  have:=(Af.mp hd).1
  rwa[Xb] at this
 rw[Qj hi] at hd
 cases hd
 exact step i σ M C hi hI hC
theorem Q7{own:Own}{z:Nat}(I:Nat→DEnv→Z3→Prop)(h0:I 0 σ M)(hs:∀i σ M,i≤xs.length→I i σ M→Pl own xs M)
  (step:∀(i:Nat) (d:D) σ M (C:DEnv→Z3→Prop),xs[i]?=some d→I i σ M→(∀σ2 M2,I (i+1) σ2 M2→C σ2 M2)→tgD tg d σ fun σ'=>cd σ' M fun b M1=>if b=true then
   el σ' M1 fun y M2=>∃acc,Zf M2 z=some acc∧acc.length<sizeLine∧C σ' (M2.set z (.lst (acc++[y]))) else C σ' M1)
  (fin:∀σ M,I xs.length σ M→Q M):Ji own xs tg cd el z xs σ M Q:=by
 have key:∀(j:Nat) σ M,j≤xs.length→I (xs.length - j) σ M→Ji own xs tg cd el z (xs.drop (xs.length - j)) σ M Q:=by
  intro j
  induction j with
  | zero=>
   intro σ M _ h
   rw[Nat.sub_zero] at h ⊢
   rw[List.drop_length]
   exact⟨hs _ σ M (Nat.le_refl _) h,fin σ M h⟩
  | succ j ih=>
   intro σ M hj h
   have hi:xs.length - (j+1)<xs.length:=by omega
   have e:xs.length - (j+1)+1=xs.length - j:=by omega
   rw[Hn hi]
   refine⟨hs _ σ M (by omega) h,step _ _ σ M (fun σ2 M2=>Ji own xs tg cd el z (xs.drop (xs.length - (j+1)+1)) σ2 M2 Q) (Ai hi) h fun σ2 M2 h2=>?_⟩
   rw[e] at h2 ⊢
   exact ih σ2 M2 (by omega) h2
 have:=key xs.length σ M (Nat.le_refl _) (by rw[Nat.sub_self];exact h0)
 rw[Nat.sub_self] at this
 exact this
theorem Ci{c:Cfg}{X:DX}{t:E}{b:Ss}{R:DEnds}{σ:DEnv}{M:Z3}(I:DEnv→Z3→Prop)(μ:DEnv→Z3→Nat)(h0:I σ M)
  (step:∀σ M,I σ M→tt c X t σ M fun r M1=>if r=true then tss c X b {nx:=fun σ2 M2=>I σ2 M2∧μ σ2 M2<μ σ M,rt:=R.rt,bk:=R.nx,ct:=fun σ2 M2=>I σ2 M2∧μ σ2 M2<μ σ M} σ M1 else R.nx σ M1):
  ts c X (.while_ t b) R σ M:=by
 refine⟨fun m σ M=>m=μ σ M∧I σ M∧True,⟨_,rfl,h0,trivial⟩,?_⟩
 rintro m σ M ⟨rfl,hI,_⟩
 have e:∀σ0 M0,(fun(σ2:DEnv) (M2:Z3)=>∃m',m'<μ σ0 M0∧m'=μ σ2 M2∧I σ2 M2∧True)=fun σ2 M2=>I σ2 M2∧μ σ2 M2<μ σ0 M0:=by
  intro σ0 M0
  funext σ2 M2
  apply propext
  constructor
  ·rintro⟨m',h1,rfl,h2,_⟩;exact⟨h2,h1⟩
  ·rintro⟨h1,h2⟩;exact⟨_,h2,rfl,h1,trivial⟩
 rw[e σ M]
 exact step σ M hI
theorem mulR{i j:Int}(h1:-(2 ^ 64)<j)(h2:j<2 ^ 64):IntMulOk i j:=CMul.ok (.inr ⟨h1,h2⟩)
theorem mulL{i j:Int}(h1:-(2 ^ 64)<i)(h2:i<2 ^ 64):IntMulOk i j:=CMul.ok (.inl ⟨h1,h2⟩)
theorem Yi{i j:Int}(h1:0<j)(h2:j<2 ^ 64):Z86 i j:=by
 refine⟨by omega,?_⟩
 have h3:j.natAbs<2 ^ 64:=by omega
 exact Nat.lt_trans (Z03 h3 (by decide)) (by decide)
theorem Z0{n:Nat}(h:n≤16000000):n≤sizeLine:=by rw[Kn];omega
theorem Z6{n:Nat}(h:n≤16000000):n<sizeLine:=by rw[Kn];omega
section
variable{M:Z3}{Q:DK}{B:Bool→Prop}{i j:Int}{a b:Str}{p q:Bool}{xs ys:List D}{n m:Nat}{K:Ab}
theorem op_add_i:opD .add (.int i) (.int j) M Q=Q (.int (i+j)) M:=rfl
theorem op_add_s:opD .add (.str a) (.str b) M Q=(a.length+b.length≤sizeLine∧Q (.str (a++b)) M):=rfl
theorem op_add_t:opD .add (.tup xs) (.tup ys) M Q=(xs≠[]∧xs.length+ys.length≤sizeLine∧Q (.tup (xs++ys)) M):=rfl
theorem op_add_l:opD .add (.ref n) (.ref m) M Q=∃xs ys,Zf M n=some xs∧Zf M m=some ys∧xs.length+ys.length≤sizeLine∧Q (.ref M.length) (M++[.lst (xs++ys)]):=rfl
theorem op_sub_i:opD .sub (.int i) (.int j) M Q=Q (.int (i - j)) M:=rfl
theorem op_mul_i:opD .mul (.int i) (.int j) M Q=(IntMulOk i j∧Q (.int (i * j)) M):=rfl
theorem op_mul_l:opD .mul (.ref n) (.int i) M Q=∃xs,Zf M n=some xs∧0≤i∧i<2 ^ 62∧xs.length * i.toNat≤sizeLine∧Q (.ref M.length) (M++[.lst (Df i.toNat xs).flatten]):=rfl
theorem op_fdiv_i:opD .fdiv (.int i) (.int j) M Q=(Z86 i j∧Q (.int (qdiv i j)) M):=rfl
theorem op_mod_i:opD .mod (.int i) (.int j) M Q=(j≠0∧Q (.int (qmod i j)) M):=rfl
theorem op_pow_i:opD .pow (.int i) (.int j) M Q=(CPow i j∧Q (.int (i ^ j.toNat)) M):=rfl
theorem op_and_i:opD .band (.int i) (.int j) M Q=Q (.int (Builtin.bitAnd i j)) M:=rfl
theorem op_xor_i:opD .bxor (.int i) (.int j) M Q=Q (.int (Builtin.bitXor i j)) M:=rfl
theorem cm_lt_i:cmD M .lt (.int i) (.int j) B=B (decide (i<j)):=rfl
theorem cm_gt_i:cmD M .gt (.int i) (.int j) B=B (decide (j<i)):=rfl
theorem cm_eq{x y:D}:cmD M .eq x y B=eqD M x y B:=rfl
theorem cm_ne{x y:D}:cmD M .ne x y B=eqD M x y fun b=>B (!b):=rfl
theorem cm_in{x y:D}:cmD M .isin x y B=inQ M x y B:=rfl
theorem cm_notin{x y:D}:cmD M .notin x y B=inQ M x y fun b=>B (!b):=rfl
theorem eq_i:eqD M (.int i) (.int j) B=B (decide (i=j)):=rfl
theorem eq_s:eqD M (.str a) (.str b) B=B (decide (a=b)):=rfl
theorem eq_b:eqD M (.bl p) (.bl q) B=B (decide (p=q)):=rfl
theorem eq_nn:eqD M .non .non B=B true:=rfl
theorem eq_is:eqD M (.int i) (.str b) B=B false:=rfl
theorem eq_si:eqD M (.str b) (.int i) B=B false:=rfl
theorem tru_b:truD M (.bl p) B=B p:=rfl
theorem tru_i:truD M (.int i) B=B (i !=0):=rfl
theorem tru_n:truD M .non B=B false:=rfl
theorem tru_t:truD M (.tup xs) B=B (!xs.isEmpty):=rfl
theorem ix_t:ixD M (.tup xs) (.int i) F=∃d,atI xs i=some d∧F d:=rfl
theorem ix_g:ixD M (.gtup xs) (.int i) F=∃d,atI xs i=some d∧F d:=rfl
theorem ix_s:ixD M (.str a) (.int i) F=(a.length≤sizeLine∧∃c,atI a.cps.toList i=some c∧F (.str ⟨#[c]⟩)):=rfl
theorem ix_l{k:Nat}(h:Zo M n=some xs){d:D}(hd:xs[k]?=some d)(hF:F d):ixD M (.ref n) (.int k) F:= .inl ⟨xs,k,d,rfl,h,Vk hd,hF⟩
theorem Y71(h:Zo M n=some xs){d:D}(hd:atI xs i=some d)(hF:F d):ixD M (.ref n) (.int i) F:= .inl ⟨xs,i,d,rfl,h,hd,hF⟩
theorem ix_d{k:D}{y:Key}(h:Zq M n=some kvs)(hk:keyD k=some y){d:D}(hd:valD kvs y=some d)(hF:F d):ixD M (.ref n) k F:= .inr (.inl ⟨kvs,y,d,Zv3 h,hk,hd,hF⟩)
theorem ix_p(h:Xq M n=some kvs){d:D}(hd:valD kvs ks=some d)(hF:F d):ixD M (.ref n) (.tup (ks.map kD)) F:= .inr (.inr ⟨kvs,ks,d,h,rfl,hd,hF⟩)
theorem ix_f{k:D}{y:Key}(h:M[n]?=some (.fdc kvs))(hk:keyD k=some y){d:D}(hd:valD kvs y=some d)(hF:F d):ixD M (.ref n) k F:= .inr (.inl ⟨kvs,y,d,by unfold Z44;rw[h],hk,hd,hF⟩)
theorem sl_s{lo hi:Option Int}:slD (.str a) lo hi M Q=(a.length≤sizeLine∧Q (.str (Txt.slice a lo hi)) M):=rfl
theorem sl_t{lo hi:Option Int}:slD (.tup xs) lo hi M Q=(¬(HT.sIx xs.length 0 lo=0∧HT.sIx xs.length xs.length hi=xs.length)∧Q (.tup (cutD xs lo hi)) M):=rfl
theorem sl_l{lo hi:Option Int}:slD (.ref n) lo hi M Q=∃xs,Zo M n=some xs∧Q (.ref M.length) (M++[.lst (cutD xs lo hi)]):=rfl
noncomputable def tyNon:Ty→Bool:=fun _=>false
noncomputable def tyBl:Ty→Bool
 | .bool=>true | .int=>true | _=>false
noncomputable def tyInt:Ty→Bool
 | .int=>true | _=>false
noncomputable def tyStr:Ty→Bool
 | .str=>true | _=>false
noncomputable def tyTup:Ty→Bool
 | .tuple=>true | _=>false
noncomputable def tyLst:Ty→Bool
 | .list=>true | _=>false
noncomputable def tyDct:Ty→Bool
 | .dict=>true | _=>false
theorem Qd{d:D}{t:Ty}{s:String}{v:Bool}(hd:∀e C dx r,d≠ .exn e C dx r)(h1:tyD M d=some s)(h2:Hf K (.type s) (.type (Xp t))=some v):isD K M d (.ty (Xp t)) B=B v:=by
 have:isD K M d (.ty (Xp t)) B=∃t' b,tyD M d=some t'∧Hf K (.type t') (.type (Xp t))=some b∧B b:=by
  cases d<;>first | rfl | exact absurd rfl (hd _ _ _ _)
 rw[this]
 apply propext
 constructor
 ·rintro⟨t',b,e1,e2,h⟩
  rw[h1] at e1
  cases e1
  rw[h2] at e2
  cases e2
  exact h
 ·intro h;exact⟨s,v,h1,h2,h⟩
theorem is_non{t:Ty}:isD K M .non (.ty (Xp t)) B=B (tyNon t):=Qd (fun _ _ _ _ h=>nomatch h) rfl (by cases t<;>rfl)
theorem is_bl{t:Ty}:isD K M (.bl p) (.ty (Xp t)) B=B (tyBl t):=Qd (fun _ _ _ _ h=>nomatch h) rfl (by cases t<;>rfl)
theorem is_int{t:Ty}:isD K M (.int i) (.ty (Xp t)) B=B (tyInt t):=Qd (fun _ _ _ _ h=>nomatch h) rfl (by cases t<;>rfl)
theorem is_str{t:Ty}:isD K M (.str a) (.ty (Xp t)) B=B (tyStr t):=Qd (fun _ _ _ _ h=>nomatch h) rfl (by cases t<;>rfl)
theorem is_tup{t:Ty}:isD K M (.tup xs) (.ty (Xp t)) B=B (tyTup t):=Qd (fun _ _ _ _ h=>nomatch h) rfl (by cases t<;>rfl)
theorem Zr8{t:Ty}(h:Zf M n=some xs):isD K M (.ref n) (.ty (Xp t)) B=B (tyLst t):=Qd (s:="list") (fun _ _ _ _ h=>nomatch h) (by simp only[tyD,Ny h]) (by cases t<;>rfl)
theorem Y67{t:Ty}(h:Zq M n=some kvs):isD K M (.ref n) (.ty (Xp t)) B=B (tyDct t):=Qd (s:="dict") (fun _ _ _ _ h=>nomatch h) (by simp only[tyD,Sc h]) (by cases t<;>rfl)
theorem Y7(h:Zo M n=some xs)(hq:Q (.int xs.length) M):bfD K .len [.ref n] M Q:= .inl ⟨xs,h,hq⟩
theorem bf_len_t:bfD K .len [.tup xs] M Q=Q (.int xs.length) M:=rfl
theorem bf_len_s:bfD K .len [.str a] M Q=(a.length≤sizeLine∧Q (.int a.length) M):=rfl
theorem bf_is{d c:D}:bfD K .isinst [d,c] M Q=isD K M d c fun b=>Q (.bl b) M:=rfl
theorem bf_min:bfD K .min2 [.int i,.int j] M Q=Q (.int (if j<i then j else i)) M:=rfl
theorem bf_dict:bfD K .dict1 [.ref n] M Q=((∃xs,Zq M n=some xs∧Q (.ref M.length) (M++[.dct xs]))∨(∃ps:List (Key×D),Zo M n=some (Tq ps)∧ps.length<sizeLine∧Q (.ref M.length) (M++[.dct (Rx ps)]))):=rfl
theorem bf_int:bfD K .int1 [.bl p] M Q=Q (.int (if p then 1 else 0)) M:=rfl
theorem at2_xy{x y:D}:at2 [x,y] F=F x y:=rfl
theorem onRef_r:N4 (.ref n) F=F n:=rfl
theorem ati0{α:Type}{x:α}{l:List α}:atI (x::l) 0=some x:=Vk (j:=0) rfl
theorem ati1{α:Type}{x y:α}{l:List α}:atI (x::y::l) 1=some y:=Vk (j:=1) rfl
theorem ati2{α:Type}{x y z:α}{l:List α}:atI (x::y::z::l) 2=some z:=Vk (j:=2) rfl
theorem ofS_inj{a b:String}:(Str.ofString a=Str.ofString b)=(a=b):=by
 apply propext
 constructor
 ·intro h
  rw[Str.ofString_eq_toList,Str.ofString_eq_toList] at h
  have h1:=congrArg (fun s:Str=>s.cps.toList) h
  simp only at h1
  have inj:∀{l m:List Char},l.map Char.toNat=m.map Char.toNat→l=m:=by
   intro l
   induction l with
   | nil=>intro m h;cases m<;>simp_all
   | cons c l ih=>
    intro m h
    cases m with
    | nil=>simp at h
    | cons e m=>
     rw[Dd,Dd,List.cons.injEq] at h
     rw[ih h.2,Char.toNat_inj.mp h.1]
  exact String.toList_inj.mp (inj h1)
 ·intro h;rw[h]
theorem mt_setd_r{t z:D}:mtD .setd (.ref n) [t,z] M Q=∃(kvs:List (List Key×D)) (ks:List Key),Xq M n=some kvs∧t= .tup (ks.map kD)∧kvs.length<sizeLine∧(∀d,valD kvs ks=some d→Q d M)∧(valD kvs ks=none→Q z (M.set n (.dcp (putD kvs ks z)))):=rfl
theorem ati3{α:Type}{x y z u:α}{l:List α}:atI (x::y::z::u::l) 3=some u:=Vk (j:=3) rfl
theorem ati4{α:Type}{x y z u v:α}{l:List α}:atI (x::y::z::u::v::l) 4=some v:=Vk (j:=4) rfl
theorem ati5{α:Type}{x y z u v w:α}{l:List α}:atI (x::y::z::u::v::w::l) 5=some w:=Vk (j:=5) rfl
theorem mk_setd:mtK .setd (.ref n) M=((Xq M n).isSome=true):=rfl
theorem mt_append_r{d:D}:mtD .append (.ref n) [d] M Q=∃xs,Zf M n=some xs∧xs.length<sizeLine∧Q .non (M.set n (.lst (xs++[d]))):=rfl
theorem mt_get2_r{k z:D}:mtD .get2 (.ref n) [k,z] M Q=∃kvs y,Zq M n=some kvs∧keyD k=some y∧Q ((valD kvs y).getD z) M:=rfl
theorem mt_pop_r:mtD .pop0 (.ref n) [] M Q=∃xs d,Zf M n=some xs∧xs[xs.length - 1]?=some d∧Q d (M.set n (.lst xs.dropLast)):=rfl
theorem mt_extend_r:mtD .extend (.ref n) [.ref m] M Q=∃xs ys,Zf M n=some xs∧Zf M m=some ys∧xs.length+ys.length≤sizeLine∧Q .non (M.set n (.lst (xs++ys))):=rfl
theorem mk_extend:mtK .extend (.ref n) M=((Zo M n).isSome=true):=rfl
theorem mk_append:mtK .append (.ref n) M=((Zo M n).isSome=true):=rfl
theorem mk_pop:mtK .pop0 (.ref n) M=((Zo M n).isSome=true):=rfl
theorem mk_get2:mtK .get2 (.ref n) M=((Zq M n).isSome=true):=rfl
theorem tg_one{k:Nat}{d:D}:tgD [k] d σ F=F (σ.set k (some d)):=by cases d<;>rfl
theorem tg_two{k l:Nat}{d e:D}:tgD [k,l] (.tup [d,e]) σ F=F ((σ.set k (some d)).set l (some e)):=by
 show([d,e].length=[k,l].length∧F _)=_
 simp
theorem it_r:itD M (.ref n) R=∃xs,Zo M n=some xs∧R (.lst n) xs:=rfl
theorem it_t:itD M (.tup xs) R=R .no xs:=rfl
theorem it_g:itD M (.gtup xs) R=R .no xs:=rfl
theorem key_i:keyD (.int i)=some (.inl i):=rfl
theorem key_s:keyD (.str a)=some (.inr a):=rfl
theorem in_ss:inQ M (.str a) (.str b) B=B (!(Ky b a 0 b.length 1).isEmpty):=rfl
end
theorem Y3{α:Type}{o:Option α}{x:α}(h:o=some x):o.isSome=true:=by rw[h];rfl
noncomputable abbrev vs4:List Value:=[.type "ValueError",.type "Exception",.type "BaseException",.type "object"]
theorem mro4{K:Ab}{bs:List Value}{sub:List Value}
  (l:K.lookup C=some (excClassObj nm q C N bs (.ref J::vs4) true sn sub ab col dd k0 k1 k2 k3 k5 nw)):∃cd,Lj K C=some cd∧cd.hasDict=true∧cd.mro=[.ref C,.ref J]++vs4:=by
 have e:Lj K C=some {name:=nm,bases:=bs,mro:= .ref C::(.ref J::vs4),ns:=N,qualname:=q,hasDict:=true,slotNames:=sn,subclasses:=sub,abstract:=ab,collection:=col,hasDel:=false}:=by
  unfold Lj
  rw[l]
 exact⟨_,e,rfl,rfl⟩
theorem Zp2{K:Ab}{bs:List Value}{sub:List Value}
  (l:K.lookup C=some (excClassObj nm q C N bs (.ref J::vs4) true sn sub ab col dd k0 k1 k2 k3 k5 "ValueError.__new__")) (hi:Dx K (.ref C) "__init__"=some (some (.ref f))) (hf:PySem.W.isFn K (.ref f)=true) (hk:Ad K (.ref C)=true):ExcMk K C f where
 cls:=⟨nm,q,N,bs,_,true,sn,sub,ab,col,dd,k0,k1,k2,k3,k5,l,rfl,rfl,rfl,rfl⟩
 init:=hi
 fn:=hf
 kp:=hk
theorem Zd5{K:Ab}{bs:List Value}{sub:List Value}
  (l:K.lookup C=some (excClassObj nm q C N bs (.ref J::vs4) true sn sub ab col dd k0 k1 k2 k3 k5 nw)) (h1:Dx K (.ref C) "row"=some none) (h2:Dx K (.ref C) "__setattr__"=some (some (.builtin "object.__setattr__"))):ExcSet K C "row" where
 cls:=by
  obtain⟨cd,e1,e2,e3⟩:=mro4 l
  refine⟨cd,[.ref C,.ref J],e1,e2,e3,fun v hv=>?_⟩
  simp only[Aw,Ha,or_false] at hv
  rcases hv with rfl | rfl
  ·exact⟨_,rfl⟩
  ·exact⟨_,rfl⟩
 no:=h1
 set:=h2
noncomputable def Zi9(st:Stmt):Bool:=match Z4 st with
 | [.Assign [.Attribute (.Name a _) b _] (.Name d _) _]=>a=="self"&&b=="row"&&d=="row"
 | _=>false
theorem Z28{st:Stmt}(h:Zi9 st=true):∃p1 p2 p3 p4,Z4 st=[.Assign [.Attribute (.Name "self" p1) "row" p2] (.Name "row" p3) p4]:=by
 unfold Zi9 at h
 split at h
 ·rename_i a p1 b p2 d p3 p4 e
  simp only[Bool.and_eq_true,beq_iff_eq] at h
  obtain⟨⟨rfl,rfl⟩,rfl⟩:=h
  exact⟨_,_,_,_,e⟩
 ·cases h
theorem Zv4{P:Program}{w:World}{K:Ab}{mg:Str→Option Value}{base:Heap}{st:Stmt}{f:Addr}{name qual:Str}{dV kV doc pm cdv ct oc:Value}{an od:Option Addr}{osl:Array (Option Value)}
  (lk:K.lookup f=some ⟨oc,od,.func (Au name qual (Zh st) (Z4 st) (Z1 st) dV kV doc pm an cdv ct),osl⟩) (hcd:Ar K cdv qual=true) (S:FnScope ["self","row"] ["self","row"] (Z1 st)) (hb:Zi9 st=true)
  (h1:(Z1 st).names.lookup ("self":Str)=some .local) (h2:(Z1 st).names.lookup ("row":Str)=some .local):
  FnOk P w K mg base CX0 1 f (Au name qual (Zh st) (Z4 st) (Z1 st) dV kV doc pm an cdv ct) ["self","row"] (Of K):=by
 refine Zt9 lk hcd S (fun vs H Q E zz144=>by obtain⟨e,C,y,h,_⟩:=zz144;rw[h];rfl) fun A outer s H vs Q E hr hsp=>?_
 obtain⟨e,C,y,rfl,q1,q2,q3⟩:=hsp
 obtain⟨p1,p2,p3,p4,eb⟩:=Z28 hb
 rw[eb]
 refine⟨_,Ev (Y52 (Zd9 (i:=0) rfl (.inl h1)) (Zd9 (i:=1) rfl (.inl h2)) rfl) Zd1,?_⟩
 exact⟨y,rfl,.ref e,rfl,e,C,rfl,q1,q2,fun dx hdx=>q3 dx hdx⟩
theorem Prg.up{K:Ab}(Pr:Prg P w K mg base c FN GN BN lv)(h:lv≤lv'):Prg P w K mg base c FN GN BN lv' where
 hK:=Pr.hK
 fns:=fun m y sp e1 e2=>by
  obtain⟨kk,f,fd,ps,ds,dvs,dD,sp0,F,hk,r⟩:=Pr.fns m y sp e1 e2
  exact⟨kk,f,fd,ps,ds,dvs,dD,sp0,F,Nat.le_trans hk h,r⟩
 flen:=Pr.flen
 glb:=Pr.glb
 blt:=Pr.blt
theorem PrgR.none{K:Ab}:PrgR P w K mg base c [] lv:=fun _ h=>absurd h Bool.false_ne_true
theorem PrgR.one{K:Ab}{lv n:Nat}(hn:c.G[n]?=some (.cls B))(h1:ExcMk K B f)(h2:FnOk P w K mg base CX0 1 f fd ["self","row"] (Of K))(h3:2≤lv)(h4:Zu K fd ["self","row"] [.none])(h5:Zu K fd ["self","row"] [])(h6:ExcSet K B "row"):
  PrgR P w K mg base c [n] lv:=fun g hg C hC=>by
 have e:g=n:=by simpa using hg
 subst e
 rw[hn] at hC
 cases hC
 exact⟨1,f,fd,h1,h2,h3,h4,h5,h6⟩
def Rest(c:Cfg)(X:DX)(r:Ss)(R:DEnds)(σ:DEnv)(M:Z3):Prop:=tss c X r R σ M
theorem tss_nil:tss c X .nil R σ M=R.nx σ M:=rfl
theorem tss_cons{s:S}:tss c X (.cons s r) R σ M=ts c X s {R with nx:=fun σ' M'=>Rest c X r R σ' M'} σ M:=rfl
theorem Su(h:tss c X r R σ M):Rest c X r R σ M:=h
theorem Y66{α:Type}{P:List α→Prop}(h:P [])(l:List α)(e:l.length=0):P l:=by
 cases l with
 | nil=>exact h
 | cons _ _=>cases e
theorem Jm{α:Type}{n:Nat}{P:List α→Prop}(h:∀a l,l.length=n→P (a::l))(l:List α)(e:l.length=n+1):P l:=by
 cases l with
 | nil=>cases e
 | cons a r=>exact h a r (Nat.succ.inj e)
theorem Rh{α:Type}{P:List α→Prop}(h:∀a,P [a]):∀l:List α,l.length=1→P l:=Jm fun a=>Y66 (h a)
theorem Wc{α:Type}{P:List α→Prop}(h:∀a b,P [a,b]):∀l:List α,l.length=2→P l:=Jm fun a=>Rh (P:=fun l=>P (a::l)) (h a)
theorem Ve{α:Type}{P:List α→Prop}(h:∀a b c,P [a,b,c]):∀l:List α,l.length=3→P l:=Jm fun a=>Wc (P:=fun l=>P (a::l)) (h a)
theorem Jk{α:Type}{P:List α→Prop}(h:∀a b c d,P [a,b,c,d]):∀l:List α,l.length=4→P l:=Jm fun a=>Ve (P:=fun l=>P (a::l)) (h a)
theorem Y72{α:Type}{P:List α→Prop}(h:∀a b c d e,P [a,b,c,d,e]):∀l:List α,l.length=5→P l:=Jm fun a=>Jk (P:=fun l=>P (a::l)) (h a)
theorem Ze4{α:Type}{P:α→Prop}:∀x∈([]:List α),P x:=fun _ h=>absurd h Ha
theorem all_cons{α:Type}{P:α→Prop}{a:α}{l:List α}(h:P a)(t:∀x∈l,P x):∀x∈a::l,P x:=fun x hx=>(Aw.mp hx).elim (fun e=>e ▸ h) (t x)
theorem Nj{K:Ab}{n:Nat}(h:∀s:Shared,K.In s.heap→∀us:List Value,us.length=n→BindsTo s fd ⟨us,[]⟩ (ps.zip (us++[])))(e:ps.length=n):Zu K fd ps []:=fun s us KX hl=>h s KX us (by rw[Dn,e] at hl;exact hl)
theorem E3{K:Ab}{d:Value}{n:Nat}(h:∀s:Shared,K.In s.heap→∀us:List Value,us.length=n→BindsTo s fd ⟨us,[]⟩ (ps.zip (us++[d])))(e:ps.length=n+1):Zu K fd ps [d]:=fun s us KX hl=>h s KX us (by rw[Ac,e] at hl;exact Nat.succ.inj hl)
end U
namespace GT
inductive Av (g:Nat→List Nat) (a:Nat):Nat→Prop
 | zero:a≠0→Av g a 0
 | step {x y:Nat}:Av g a x→y∈g x→y≠a→Av g a y
structure Num(g:Nat→List Nat)(n:Nat):Prop where
 pos:0<n
 cl:∀x,x<n→∀y∈g x,y<n
 up:∀k,k<n→k≠0→∃p,p<k∧k∈g p
structure Must(g:Nat→List Nat)(k m:Nat):Prop where
 ne:m≠k
 dom:¬Av g m k
 last:∀d,d≠k→¬Av g d k→d≤m
structure Wk(g:Nat→List Nat)(n:Nat)(B:List Nat)(T:List (Nat×Nat))(F:List Nat):Prop where
 bn:B.Nodup
 bl:∀x∈B,x<n
 z:0∈B
 mem:∀x,x∈B↔(∃s,(x,s)∈T)∨x∈F
 nd:(T.map (·.1)++F).Nodup
 first:∀p,T[0]?=some p→p.1=0
 chain:∀(i:Nat) p q,T[i]?=some p→T[i+1]?=some q→q.1∈g p.1
 steps:∀a s,(a,s)∈T→s≤(g a).length∧∀j y,j<s→(g a)[j]?=some y→y∈B
 fin:∀d∈F,∀y∈g d,y∈B
 par:∀(i:Nat) x,F[i]?=some x→x≠0→∃p,x∈g p∧p∈B∧p∉F.take (i+1)
structure Ord(g:Nat→List Nat)(n:Nat)(O:List Nat):Prop where
 nd:O.Nodup
 lt:∀x∈O,x<n
 z:O[0]?=some 0
 cl:∀x∈O,∀y∈g x,y∈O
 up:∀(k:Nat) x,O[k]?=some x→k≠0→∃(j:Nat) (p:Nat),j<k∧O[j]?=some p∧x∈g p
structure Fd(g:Nat→List Nat)(n a:Nat)(L:List Nat)(t:Nat):Prop where
 nd:L.Nodup
 z:L[0]?=some 0
 av:∀x∈L,Av g a x
 done:∀(i:Nat) x,i<t→L[i]?=some x→∀y∈g x,y=a∨y∈L
 le:t≤L.length
end GT
namespace ND
structure St where
 b:List Nat
 s:List (Nat×List Nat)
 d:List Nat
noncomputable def stp(g:Nat→List Nat):St→St
 | ⟨b,[],d⟩=>⟨b,[],d⟩
 | ⟨b,(x,[])::s,d⟩=>⟨b,s,d++[x]⟩
 | ⟨b,(x,t::r)::s,d⟩=>if t∈b then⟨b,(x,r)::s,d⟩ else⟨b++[t],(t,g t)::(x,r)::s,d⟩
noncomputable def itr(g:Nat→List Nat):Nat→St→St
 | 0,s=>s
 | k+1,s=>stp g (itr g k s)
def Ends(g:Nat→List Nat)(x:Nat)(d:List Nat):Prop:=∃k b,itr g k ⟨[x],[(x,g x)],[]⟩=⟨b,[],d⟩
noncomputable def mp(π:Nat→Nat)(s:St):St:=⟨s.b.map π,s.s.map fun p=>(π p.1,p.2.map π),s.d.map π⟩
structure In(S:Nat→Prop)(z:St):Prop where
 b:∀x∈z.b,S x
 s:∀p∈z.s,S p.1∧∀t∈p.2,S t
 d:∀x∈z.d,S x
structure Ok(g:Nat→List Nat)(x:Nat)(s:St):Prop where
 nb:s.b.Nodup
 nd:(s.s.map (·.1)++s.d).Nodup
 eq:∀y,y∈s.b↔y∈s.s.map (·.1)∨y∈s.d
 cl:∀y∈s.d,∀t∈g y,t∈s.b
 op:∀p∈s.s,(∀t∈p.2,t∈g p.1)∧∀t∈g p.1,t∈p.2∨t∈s.b
 bot:s.s.getLast?.map (·.1)=some x∨(s.s=[]∧s.d.getLast?=some x)
theorem Gf(N:Nat)(l:List Nat)(nd:l.Nodup)(h:∀x∈l,x<N):l.length≤N:=by
 have:l.length≤(Hz N).length:=List.Nodup.length_le_of_subset nd (fun x hx=>Lm.mpr (h x hx))
 simpa using this
end ND
namespace LN
inductive Orb (J:Nat→Option Nat):Nat→Nat→Prop
 | refl (p:Nat):Orb J p p
 | step {p q r:Nat}:J p=some q→Orb J q r→Orb J p r
theorem Orb.trans{p q r:Nat}(h:Orb J p q)(g:Orb J q r):Orb J p r:=by
 induction h with
 | refl _=>exact g
 | step e _ ih=>exact .step e (ih g)
def Ln(J:Nat→Option Nat)(n:Nat)(m:Nat→Option Nat):Prop:=∀p g,m p=some g→p<n∧(J p=none→g=p)∧(∀q,J p=some q→m q=some g)∧Orb J p g
def Lk(J:Nat→Option Nat):Nat→List Nat→Nat→Prop
 | s,[],p=>s=p
 | s,x::r,p=>s=x∧∃q,J x=some q∧Lk J q r p
theorem Lk.snoc{p q:Nat}(e:J p=some q):∀{s:Nat} {P:List Nat},Lk J s P p→Lk J s (P++[p]) q
 | s,[],h=>⟨h,q,e,rfl⟩
 | s,x::r,⟨h1,t,h2,h3⟩=>⟨h1,t,h2,Lk.snoc e h3⟩
theorem Lk.next:∀{s p:Nat} {P:List Nat},Lk J s P p→∀x∈P,∃q,J x=some q∧(q∈P∨q=p)∧Orb J x p
 | s,p,[],h,x,hx=>by cases hx
 | s,p,y::r,h,x,hx=>by
  obtain⟨rfl,t,h2,h3⟩:=h
  have ho:Orb J t p:=by
   cases r with
   | nil=>rw[show t=p from h3];exact .refl _
   | cons z r=>
    obtain⟨_,_,_,h⟩:=Lk.next h3 z He
    rw[h3.1];exact h
  rcases Aw.mp hx with rfl | hx
  ·refine⟨t,h2,?_,.step h2 ho⟩
   cases r with
   | nil=>exact .inr h3
   | cons z r=>exact .inl (Dr _ (by rw[h3.1];exact He))
  ·obtain⟨q,a1,a2,a3⟩:=Lk.next h3 x hx
   exact⟨q,a1,a2.imp (Dr _) id,a3⟩
noncomputable def land(m:Nat→Option Nat)(P:List Nat)(p g:Nat):Nat→Option Nat:=fun x=>if x∈P then some g else if x=p then some g else m x
theorem Ln.land{n s p:Nat}(h:Ln J n m)(k:Lk J s P p)(hn:∀x∈P,x<n∧m x=none)(hp:p<n)
  (stop:(m p).isSome=true∨p∈P∨J p=none):Ln J n (land m P p ((m p).getD p))∧(land m P p ((m p).getD p) s).isSome=true∧∀x,(m x).isSome=true→(land m P p ((m p).getD p) x).isSome=true:=by
 have og:Orb J p ((m p).getD p):=by
  cases e:m p with
  | none=>exact .refl _
  | some g=>exact(h p g e).2.2.2
 refine⟨fun x g hx=>?_,?_,fun x hx=>?_⟩
 ·unfold LN.land at hx
  split at hx
  ·rename_i hP
   cases hx
   obtain⟨q,a1,a2,a3⟩:=k.next x hP
   refine⟨(hn x hP).1,fun z=>(by rw[a1] at z;cases z),fun q' hq=>?_,a3.trans og⟩
   rw[a1] at hq
   cases hq
   unfold LN.land
   rcases a2 with a2 | a2
   ·rw[if_pos a2]
   ·split
    ·rfl
    ·first | rfl | rw[if_pos a2]
  ·rename_i hP
   split at hx
   ·rename_i ex
    subst ex
    cases hx
    refine⟨hp,fun z=>?_,fun q hq=>?_,og⟩
    ·cases e:m x with
     | none=>rfl
     | some g=>exact(h x g e).2.1 z
    ·cases e:m x with
     | none=>
      rcases stop with z | z | z
      ·rw[e] at z;cases z
      ·exact absurd z hP
      ·rw[hq] at z;cases z
     | some g=>
      have:=(h x g e).2.2.1 q hq
      unfold LN.land
      show(if q∈P then some g else if q=x then some g else m q)=some g
      split
      ·rfl
      ·split
       ·rfl
       ·exact this
   ·rename_i ex
    obtain⟨b1,b2,b3,b4⟩:=h x g hx
    refine⟨b1,b2,fun q hq=>?_,b4⟩
    have hm:=b3 q hq
    unfold LN.land
    split
    ·rename_i hqP
     rw[(hn q hqP).2] at hm
     cases hm
    ·split
     ·rename_i eq
      subst eq
      rw[hm];rfl
     ·exact hm
 ·unfold LN.land
  cases P with
  | nil=>rw[if_neg (by simp),if_pos (show s=p from k)];rfl
  | cons y r=>rw[if_pos (by rw[k.1];exact He)];rfl
 ·unfold LN.land
  split
  ·rfl
  ·split
   ·rfl
   ·exact hx
end LN
namespace K53
open PySem PySem.Spec PyProof.Rows L2 L3 U
noncomputable def top(i:Nat):Stmt:=PySem.Challenge.pw_unjump_k53_spinning.main.body.getD i (.Pass ⟨0,0,0,0⟩)
noncomputable def FN:List Str:="line_of"::"told_within"::"lines_of"::"with_goal"::"begin_rows"::"begin_no"::"finish_rows"::"rows_of"::"quotient"::"rest"::"made"::"holds"::"worth"::"deed_of_sum"::"deed_of_test"::"behind"::"deed_of"::"run_from"::"landings"::"linked"::"run"::"run_form"::"_law_raw"::"_law_mix"::"_law_alike"::"_law_same_memory"::"_law_counting"::"_law_spin"::"_law_last"::"_law_within"::"_law_deeds"::"_law_word"::"law"::"run"::"run_form"::[]
noncomputable def GN:List Str:=["JumpError","ByNought","ELSE","DONE","OPENERS"]
noncomputable def BN:List Str:=["list","reversed","len","enumerate","isinstance","str","dict","range","zip","tuple","int","bool","min"]
noncomputable abbrev Xx:Stmt:=top 5
noncomputable def Sa:List Str:=["statement"]
theorem Z41:FnScope Sa ["statement"] (Z1 Xx):=⟨rfl,rfl,rfl,by decide+kernel,rfl,by decide+kernel,by decide+kernel⟩
noncomputable def S4:Ss:=
 (.cons (.ret (.var 0))
 .nil)
noncomputable def We:Ss:=
 (.cons (.ite (.cmp .isin (.ix (.var 0) (.int 0)) (.tup (.cons (.str "round") (.cons (.str "part") .nil)))) (.cons (.ret (.sl (.var 0) .no (.yes (.int 2))))
 .nil) .nil)
 S4)
noncomputable def b_line_of:Ss:=
 (.cons (.ite (.cmp .eq (.ix (.var 0) (.int 0)) (.str "choice")) (.cons (.ret (.sl (.var 0) .no (.yes (.int 4))))
 .nil) .nil)
 We)
theorem Z78:Yj (ck0 Sa Xx FN GN BN) b_line_of (Z4 Xx)=true:=by decide+kernel
noncomputable abbrev Yo:Stmt:=top 6
noncomputable def Yn:List Str:=["statement","yes","no"]
theorem Pk:FnScope Yn ["statement"] (Z1 Yo):=⟨rfl,rfl,rfl,by decide+kernel,rfl,by decide+kernel,by decide+kernel⟩
noncomputable def Vi:Ss:=
 (.cons (.ret (.bin .add (.bin .add (.bin .add (.var 1) (.lst (.cons (.glb 2) .nil))) (.var 2)) (.lst (.cons (.glb 3) .nil))))
 .nil)
noncomputable def Vv:Ss:=
 (.cons (.set [1,2] (.sl (.var 0) (.yes (.int 4)) .no))
 (.cons (.ite (.cmp .eq (.var 2) (.lst .nil)) (.cons (.ret (.bin .add (.var 1) (.lst (.cons (.glb 3) .nil))))
 .nil) .nil)
 Vi))
noncomputable def Xm:Ss:=
 (.cons (.ite (.cmp .ne (.ix (.var 0) (.int 0)) (.str "choice")) (.cons (.ret (.lst .nil))
 .nil) .nil)
 Vv)
noncomputable def b_told_within:Ss:=
 (.cons (.ite (.cmp .isin (.ix (.var 0) (.int 0)) (.tup (.cons (.str "round") (.cons (.str "part") .nil)))) (.cons (.ret (.bin .add (.ix (.var 0) (.int 2)) (.lst (.cons (.glb 3) .nil))))
 .nil) .nil)
 Xm)
theorem Nb:Yj (ck0 Yn Yo FN GN BN) b_told_within (Z4 Yo)=true:=by decide+kernel
noncomputable abbrev Xd:Stmt:=top 4
noncomputable def Tb:List Str:=["form","told","left","statement"]
theorem El:FnScope Tb ["form"] (Z1 Xd):=⟨rfl,rfl,rfl,by decide+kernel,rfl,by decide+kernel,by decide+kernel⟩
noncomputable def Rk:Ss:=
 (.cons (.ret (.var 1))
 .nil)
noncomputable def Rq:Ss:=
 (.cons (.set [3] (.mt .pop0 (.var 2) .nil))
 (.cons (.expr (.mt .append (.var 1) (.cons (.call 0 (.cons (.var 3) .nil)) .nil)))
 (.cons (.expr (.mt .extend (.var 2) (.cons (.lrev (.call 1 (.cons (.var 3) .nil))) .nil)))
 .nil)))
noncomputable def b_lines_of:Ss:=
 (.cons (.set [1] (.lst .nil))
 (.cons (.set [2] (.lrev (.var 0)))
 (.cons (.while_ (.cmp .ne (.var 2) (.lst .nil)) Rq)
 Rk)))
theorem Bo:Yj (ck0 Tb Xd FN GN BN) b_lines_of (Z4 Xd)=true:=by decide+kernel
noncomputable abbrev X1:Stmt:=top 12
noncomputable def V6:List Str:=["row","places"]
theorem Fj:FnScope V6 ["row","places"] (Z1 X1):=⟨rfl,rfl,rfl,by decide+kernel,rfl,by decide+kernel,by decide+kernel⟩
noncomputable def V2:Ss:=
 (.cons (.ret (.var 0))
 .nil)
noncomputable def b_with_goal:Ss:=
 (.cons (.ite (.cmp .isin (.ix (.var 0) (.int 0)) (.tup (.cons (.str "test") (.cons (.str "jump") .nil)))) (.cons (.ret (.bin .add (.sl (.var 0) .no (.yes (.neg (.int 1)))) (.tup (.cons (.ix (.var 1) (.ix (.var 0) (.neg (.int 1)))) .nil))))
 .nil) .nil)
 V2)
theorem Fs:Yj (ck0 V6 X1 FN GN BN) b_with_goal (Z4 X1)=true:=by decide+kernel
noncomputable abbrev Yv:Stmt:=top 9
noncomputable def Wm:List Str:=["line","told","places","number"]
theorem N7:FnScope Wm ["line","told","places"] (Z1 Yv):=⟨rfl,rfl,rfl,by decide+kernel,rfl,by decide+kernel,by decide+kernel⟩
noncomputable def To:Ss:=
 (.cons (.set [3] (.bf .len (.cons (.var 1) .nil)))
 (.cons (.expr (.mt .append (.var 1) (.cons (.bin .add (.bin .add (.tup (.cons (.str "test") .nil)) (.sl (.var 0) (.yes (.int 1)) .no)) (.tup (.cons (.tup (.cons (.str "yes") (.cons (.var 3) .nil))) .nil))) .nil)))
 (.cons (.expr (.mt .append (.var 1) (.cons (.tup (.cons (.str "jump") (.cons (.tup (.cons (.str "no") (.cons (.var 3) .nil))) .nil))) .nil)))
 (.cons (.put (.var 2) (.tup (.cons (.str "yes") (.cons (.var 3) .nil))) (.bf .len (.cons (.var 1) .nil)))
 (.cons (.ret (.tup (.cons (.str "choice") (.cons (.var 3) .nil))))
 .nil)))))
noncomputable def b_begin_rows:Ss:=
 (.cons (.ite (.cmp .ne (.ix (.var 0) (.int 0)) (.str "choice")) (.cons (.put (.var 2) (.tup (.cons (.str "again") (.cons (.ix (.var 0) (.int 1)) .nil))) (.bf .len (.cons (.var 1) .nil)))
 (.cons (.ret (.var 0))
 .nil)) .nil)
 To)
theorem Gp:Yj (ck0 Wm Yv FN GN BN) b_begin_rows (Z4 Yv)=true:=by decide+kernel
noncomputable abbrev Xa:Stmt:=top 10
noncomputable def Td:List Str:=["choice","told","places"]
theorem E8:FnScope Td ["choice","told","places"] (Z1 Xa):=⟨rfl,rfl,rfl,by decide+kernel,rfl,by decide+kernel,by decide+kernel⟩
noncomputable def b_begin_no:Ss:=
 (.cons (.expr (.mt .append (.var 1) (.cons (.tup (.cons (.str "jump") (.cons (.tup (.cons (.str "behind") (.cons (.ix (.var 0) (.int 1)) .nil))) .nil))) .nil)))
 (.cons (.put (.var 2) (.tup (.cons (.str "no") (.cons (.ix (.var 0) (.int 1)) .nil))) (.bf .len (.cons (.var 1) .nil)))
 .nil))
theorem Z16:Yj (ck0 Td Xa FN GN BN) b_begin_no (Z4 Xa)=true:=by decide+kernel
noncomputable abbrev Yk:Stmt:=top 11
noncomputable def W5:List Str:=["done","told","places","kind","number"]
theorem Po:FnScope W5 ["done","told","places"] (Z1 Yk):=⟨rfl,rfl,rfl,by decide+kernel,rfl,by decide+kernel,by decide+kernel⟩
noncomputable def Xk:Ss:=
 (.cons (.ite (.cmp .isin (.var 3) (.tup (.cons (.str "round") (.cons (.str "part") .nil)))) (.cons (.put (.var 2) (.tup (.cons (.str "leave") (.cons (.var 4) .nil))) (.bf .len (.cons (.var 1) .nil)))
 .nil) .nil)
 .nil)
noncomputable def X3:Ss:=
 (.cons (.ite (.cmp .eq (.var 3) (.str "round")) (.cons (.expr (.mt .append (.var 1) (.cons (.tup (.cons (.str "jump") (.cons (.tup (.cons (.str "again") (.cons (.var 4) .nil))) .nil))) .nil)))
 .nil) .nil)
 Xk)
noncomputable def b_finish_rows:Ss:=
 (.cons (.set [3,4] (.var 0))
 (.cons (.ite (.cmp .eq (.var 3) (.str "choice")) (.cons (.expr (.mt .setd (.var 2) (.cons (.tup (.cons (.str "no") (.cons (.var 4) .nil))) (.cons (.bf .len (.cons (.var 1) .nil)) .nil))))
 (.cons (.put (.var 2) (.tup (.cons (.str "behind") (.cons (.var 4) .nil))) (.bf .len (.cons (.var 1) .nil)))
 .nil)) .nil)
 X3))
theorem Nk:Yj (ck0 W5 Yk FN GN BN) b_finish_rows (Z4 Yk)=true:=by decide+kernel
noncomputable abbrev Xz:Stmt:=top 8
noncomputable def S9:List Str:=["form","told","places","opened","line"]
theorem Bl:FnScope S9 ["form"] (Z1 Xz):=⟨rfl,rfl,rfl,by decide+kernel,rfl,by decide+kernel,by decide+kernel⟩
noncomputable def Qn:Ss:=
 (.cons (.expr (.mt .append (.var 1) (.cons (.tup (.cons (.str "end") .nil)) .nil)))
 (.cons (.ret (.comp ["number","row","places"] [none,none,(some 2)] [0,1] (.enm (.var 1)) .no (.bin .add (.tup (.cons (.var 0) .nil)) (.call 3 (.cons (.var 1) (.cons (.var 2) .nil))))))
 .nil))
noncomputable def S3:Ss:=
 (.cons (.ite (.cmp .isin (.ix (.var 4) (.int 0)) (.glb 4)) (.cons (.expr (.mt .append (.var 3) (.cons (.call 4 (.cons (.var 4) (.cons (.var 1) (.cons (.var 2) .nil)))) .nil)))
 .nil) (.cons (.ite (.cmp .eq (.var 4) (.glb 2)) (.cons (.expr (.call 5 (.cons (.ix (.var 3) (.neg (.int 1))) (.cons (.var 1) (.cons (.var 2) .nil)))))
 .nil) (.cons (.ite (.cmp .eq (.var 4) (.glb 3)) (.cons (.expr (.call 6 (.cons (.mt .pop0 (.var 3) .nil) (.cons (.var 1) (.cons (.var 2) .nil)))))
 .nil) (.cons (.ite (.cmp .isin (.ix (.var 4) (.int 0)) (.tup (.cons (.str "leave") (.cons (.str "again") .nil)))) (.cons (.expr (.mt .append (.var 1) (.cons (.tup (.cons (.str "jump") (.cons (.var 4) .nil))) .nil)))
 .nil) (.cons (.expr (.mt .append (.var 1) (.cons (.var 4) .nil)))
 .nil))
 .nil))
 .nil))
 .nil))
 .nil)
noncomputable def b_rows_of:Ss:=
 (.cons (.set [1] (.lst .nil))
 (.cons (.set [2] .dictT)
 (.cons (.set [3] (.lst .nil))
 (.cons (.for_ [4] (.seq (.call 2 (.cons (.var 0) .nil))) S3)
 Qn))))
theorem Z68:Yj (ck0 S9 Xz FN GN BN) b_rows_of (Z4 Xz)=true:=by decide+kernel
noncomputable abbrev Xi:Stmt:=top 18
noncomputable def Tj:List Str:=["one","other"]
theorem Ed:FnScope Tj ["one","other"] (Z1 Xi):=⟨rfl,rfl,rfl,by decide+kernel,rfl,by decide+kernel,by decide+kernel⟩
noncomputable def Gk:Ss:=
 (.cons (.ret (.bin .fdiv (.var 0) (.var 1)))
 .nil)
noncomputable def b_quotient:Ss:=
 (.cons (.ite (.cmp .eq (.var 1) (.int 0)) (.cons (.raise 1 .nil)
 .nil) .nil)
 Gk)
theorem Bm:Yj (ck1 [1] Tj Xi FN GN BN) b_quotient (Z4 Xi)=true:=by decide+kernel
noncomputable abbrev Rv:Stmt:=top 19
noncomputable def Be:List Str:=["one","other"]
theorem Zt5:FnScope Be ["one","other"] (Z1 Rv):=⟨rfl,rfl,rfl,by decide+kernel,rfl,by decide+kernel,by decide+kernel⟩
noncomputable def Zn6:Ss:=
 (.cons (.ret (.bin .mod (.var 0) (.var 1)))
 .nil)
noncomputable def b_rest:Ss:=
 (.cons (.ite (.cmp .eq (.var 1) (.int 0)) (.cons (.raise 1 .nil)
 .nil) .nil)
 Zn6)
theorem Y85:Yj (ck1 [1] Be Rv FN GN BN) b_rest (Z4 Rv)=true:=by decide+kernel
noncomputable abbrev Rt:Stmt:=top 17
noncomputable def O7:List Str:=["sign","one","other"]
theorem Y18:FnScope O7 ["sign","one","other"] (Z1 Rt):=⟨rfl,rfl,rfl,by decide+kernel,rfl,by decide+kernel,by decide+kernel⟩
noncomputable def Zp5:Ss:=
 (.cons (.ret (.bin .bxor (.var 1) (.var 2)))
 .nil)
noncomputable def Zp4:Ss:=
 (.cons (.ite (.cmp .eq (.var 0) (.str "&")) (.cons (.ret (.bin .band (.var 1) (.var 2)))
 .nil) .nil)
 Zp5)
noncomputable def B0:Ss:=
 (.cons (.ite (.cmp .eq (.var 0) (.str "rest")) (.cons (.ret (.call 9 (.cons (.var 1) (.cons (.var 2) .nil))))
 .nil) .nil)
 Zp4)
noncomputable def Nm:Ss:=
 (.cons (.ite (.cmp .eq (.var 0) (.str "/")) (.cons (.ret (.call 8 (.cons (.var 1) (.cons (.var 2) .nil))))
 .nil) .nil)
 B0)
noncomputable def J0:Ss:=
 (.cons (.ite (.cmp .eq (.var 0) (.str "-")) (.cons (.ret (.bin .sub (.var 1) (.var 2)))
 .nil) .nil)
 Nm)
noncomputable def b_made:Ss:=
 (.cons (.ite (.cmp .eq (.var 0) (.str "+")) (.cons (.ret (.bin .add (.var 1) (.var 2)))
 .nil) .nil)
 J0)
theorem Y45:Yj (ck1 [] O7 Rt FN GN BN) b_made (Z4 Rt)=true:=by decide+kernel
noncomputable abbrev T5:Stmt:=top 20
noncomputable def J7:List Str:=["sign","one","other"]
theorem Zo4:FnScope J7 ["sign","one","other"] (Z1 T5):=⟨rfl,rfl,rfl,by decide+kernel,rfl,by decide+kernel,by decide+kernel⟩
noncomputable def Zb0:Ss:=
 (.cons (.ret (.cmp .eq (.var 1) (.var 2)))
 .nil)
noncomputable def b_holds:Ss:=
 (.cons (.ite (.cmp .eq (.var 0) (.str "<")) (.cons (.ret (.cmp .lt (.var 1) (.var 2)))
 .nil) .nil)
 Zb0)
theorem Zz3:Yj (ck0 J7 T5 FN GN BN) b_holds (Z4 T5)=true:=by decide+kernel
noncomputable abbrev Vm:Stmt:=top 21
noncomputable def N5:List Str:=["operand","memory"]
theorem Zm6:FnScope N5 ["operand","memory"] (Z1 Vm):=⟨rfl,rfl,rfl,by decide+kernel,rfl,by decide+kernel,by decide+kernel⟩
noncomputable def Gu:Ss:=
 (.cons (.ret (.var 0))
 .nil)
noncomputable def b_worth:Ss:=
 (.cons (.ite (.bf .isinst (.cons (.var 0) (.cons (.ty .str) .nil))) (.cons (.ret (.mt .get2 (.var 1) (.cons (.var 0) (.cons (.int 0) .nil))))
 .nil) .nil)
 Gu)
theorem Zt0:Yj (ck0 N5 Vm FN GN BN) b_worth (Z4 Vm)=true:=by decide+kernel
noncomputable abbrev Yl:Stmt:=top 22
noncomputable def W3:List Str:=["name","one","sign","other","memory","a","b"]
theorem Ps:FnScope W3 ["name","one","sign","other","memory"] (Z1 Yl):=⟨rfl,rfl,rfl,by decide+kernel,rfl,by decide+kernel,by decide+kernel⟩
noncomputable def b_deed_of_sum:Ss:=
 (.cons (.set [5] (.call 12 (.cons (.var 1) (.cons (.var 4) .nil))))
 (.cons (.set [6] (.call 12 (.cons (.var 3) (.cons (.var 4) .nil))))
 (.cons (.ret (.tup (.cons (.str "sum") (.cons (.var 0) (.cons (.var 5) (.cons (.var 2) (.cons (.var 6) (.cons (.call 10 (.cons (.var 2) (.cons (.var 5) (.cons (.var 6) .nil)))) .nil))))))))
 .nil)))
theorem Jd:Yj (ck1 [] W3 Yl FN GN BN) b_deed_of_sum (Z4 Yl)=true:=by decide+kernel
noncomputable abbrev Yc:Stmt:=top 23
noncomputable def Xs:List Str:=["one","sign","other","memory","a","b"]
theorem Qp:FnScope Xs ["one","sign","other","memory"] (Z1 Yc):=⟨rfl,rfl,rfl,by decide+kernel,rfl,by decide+kernel,by decide+kernel⟩
noncomputable def b_deed_of_test:Ss:=
 (.cons (.set [4] (.call 12 (.cons (.var 0) (.cons (.var 3) .nil))))
 (.cons (.set [5] (.call 12 (.cons (.var 2) (.cons (.var 3) .nil))))
 (.cons (.ret (.tup (.cons (.str "test") (.cons (.var 4) (.cons (.var 1) (.cons (.var 5) (.cons (.call 11 (.cons (.var 1) (.cons (.var 4) (.cons (.var 5) .nil)))) .nil)))))))
 .nil)))
theorem Pt:Yj (ck0 Xs Yc FN GN BN) b_deed_of_test (Z4 Yc)=true:=by decide+kernel
noncomputable abbrev Wn:Stmt:=top 27
noncomputable def Q3:List Str:=["node","deed","memory"]
theorem Z98:FnScope Q3 ["node","deed","memory"] (Z1 Wn):=⟨rfl,rfl,rfl,by decide+kernel,rfl,by decide+kernel,by decide+kernel⟩
noncomputable def O4:Ss:=
 (.cons (.ret (.ife (.ix (.var 1) (.int 4)) (.ix (.var 0) (.int 4)) (.ix (.var 0) (.int 5))))
 .nil)
noncomputable def b_behind:Ss:=
 (.cons (.ite (.cmp .eq (.ix (.var 0) (.int 0)) (.str "sum")) (.cons (.put (.var 2) (.ix (.var 0) (.int 1)) (.ix (.var 1) (.int 5)))
 (.cons (.ret (.ix (.var 0) (.int 5)))
 .nil)) .nil)
 O4)
theorem Zi0:Yj (ck0 Q3 Wn FN GN BN) b_behind (Z4 Wn)=true:=by decide+kernel
noncomputable abbrev Xw:Stmt:=top 26
noncomputable def Sl:List Str:=["node","memory"]
theorem Z18:FnScope Sl ["node","memory"] (Z1 Xw):=⟨rfl,rfl,rfl,by decide+kernel,rfl,by decide+kernel,by decide+kernel⟩
noncomputable def Qo:Ss:=
 (.cons (.ret (.call 14 (.cons (.ix (.var 0) (.int 1)) (.cons (.ix (.var 0) (.int 2)) (.cons (.ix (.var 0) (.int 3)) (.cons (.var 1) .nil))))))
 .nil)
noncomputable def b_deed_of:Ss:=
 (.cons (.ite (.cmp .eq (.ix (.var 0) (.int 0)) (.str "sum")) (.cons (.ret (.call 13 (.cons (.ix (.var 0) (.int 1)) (.cons (.ix (.var 0) (.int 2)) (.cons (.ix (.var 0) (.int 3)) (.cons (.ix (.var 0) (.int 4)) (.cons (.var 1) .nil)))))))
 .nil) .nil)
 Qo)
theorem Z90:Yj (ck1 [] Sl Xw FN GN BN) b_deed_of (Z4 Xw)=true:=by decide+kernel
noncomputable abbrev X8:Stmt:=top 25
noncomputable def Tl:List Str:=["nodes","start","memory","most","held","deeds","place","deed","word"]
theorem E7:FnScope Tl ["nodes","start","memory","most"] (Z1 X8):=⟨rfl,rfl,rfl,by decide+kernel,rfl,by decide+kernel,by decide+kernel⟩
noncomputable def T3:Ss:=
 (.cons (.set [8] (.ife (.cmp .eq (.ix (.ix (.var 0) (.var 6)) (.int 0)) (.str "end")) (.str "end") (.str "on")))
 (.cons (.ret (.tup (.cons (.var 5) (.cons (.var 8) (.cons (.var 4) .nil)))))
 .nil))
noncomputable def Vq:Ss:=
 (.cons (.expr (.mt .append (.var 5) (.cons (.var 7) .nil)))
 (.cons (.set [6] (.call 15 (.cons (.ix (.var 0) (.var 6)) (.cons (.var 7) (.cons (.var 4) .nil)))))
 .nil))
noncomputable def Wo:Ss:=
 (.cons (.tryN (.set 7) 16 (.cons (.ix (.var 0) (.var 6)) (.cons (.var 4) .nil)) 1 (.cons (.ret (.tup (.cons (.var 5) (.cons (.str "fault") (.cons (.var 4) .nil)))))
 .nil))
 Vq)
noncomputable def b_run_from:Ss:=
 (.cons (.set [4] (.bf .dict1 (.cons (.var 2) .nil)))
 (.cons (.set [5] (.lst .nil))
 (.cons (.set [6] (.var 1))
 (.cons (.while_ (.bop true (.cons (.cmp .isin (.ix (.ix (.var 0) (.var 6)) (.int 0)) (.tup (.cons (.str "sum") (.cons (.str "test") .nil)))) (.cons (.cmp .lt (.bf .len (.cons (.var 5) .nil)) (.var 3)) .nil))) Wo)
 T3))))
theorem Z09:Yj (ck0 Tl X8 FN GN BN) b_run_from (Z4 X8)=true:=by decide+kernel
noncomputable abbrev Xe:Stmt:=top 30
noncomputable def Te:List Str:=["rows","places","landed","start","passed","place","goal","jump"]
theorem Fp:FnScope Te ["rows","places"] (Z1 Xe):=⟨rfl,rfl,rfl,by decide+kernel,rfl,by decide+kernel,by decide+kernel⟩
noncomputable def Rp:Ss:=
 (.cons (.ret (.var 2))
 .nil)
noncomputable def Ru:Ss:=
 (.cons (.put (.var 2) (.var 7) (.var 6))
 .nil)
noncomputable def Vz:Ss:=
 (.cons (.set [6] (.mt .get2 (.var 2) (.cons (.var 5) (.cons (.var 5) .nil))))
 (.cons (.put (.var 2) (.var 5) (.var 6))
 (.cons (.forK [7] (.var 4) Ru)
 .nil)))
noncomputable def Rl:Ss:=
 (.cons (.put (.var 4) (.var 5) (.bl true))
 (.cons (.set [5] (.ix (.var 1) (.ix (.ix (.var 0) (.var 5)) (.int 2))))
 .nil))
noncomputable def Rs:Ss:=
 (.cons (.set [4] .dict0)
 (.cons (.set [5] (.var 3))
 (.cons (.while_ (.bop true (.cons (.cmp .notin (.var 5) (.var 2)) (.cons (.cmp .notin (.var 5) (.var 4)) (.cons (.cmp .eq (.ix (.ix (.var 0) (.var 5)) (.int 1)) (.str "jump")) .nil)))) Rl)
 Vz)))
noncomputable def b_landings:Ss:=
 (.cons (.set [2] .dict0)
 (.cons (.for_ [3] (.rng1 (.bf .len (.cons (.var 0) .nil))) Rs)
 Rp))
theorem Z10:Yj (ck0 Te Xe FN GN BN) b_landings (Z4 Xe)=true:=by decide+kernel
noncomputable abbrev Wl:Stmt:=top 29
noncomputable def Q4:List Str:=["rows","places","landed","nodes","place","row"]
theorem Z92:FnScope Q4 ["rows"] (Z1 Wl):=⟨rfl,rfl,rfl,by decide+kernel,rfl,by decide+kernel,by decide+kernel⟩
noncomputable def Og:Ss:=
 (.cons (.ret (.tup (.cons (.var 3) (.cons (.ix (.var 2) (.int 0)) .nil))))
 .nil)
noncomputable def Pz:Ss:=
 (.cons (.ite (.cmp .eq (.ix (.var 5) (.int 1)) (.str "sum")) (.cons (.expr (.mt .append (.var 3) (.cons (.bin .add (.sl (.var 5) (.yes (.int 1)) .no) (.tup (.cons (.ix (.var 2) (.bin .add (.var 4) (.int 1))) .nil))) .nil)))
 .nil) (.cons (.ite (.cmp .eq (.ix (.var 5) (.int 1)) (.str "test")) (.cons (.expr (.mt .append (.var 3) (.cons (.bin .add (.sl (.var 5) (.yes (.int 1)) (.yes (.int 5))) (.tup (.cons (.ix (.var 2) (.ix (.var 1) (.ix (.var 5) (.int 5)))) (.cons (.ix (.var 2) (.bin .add (.var 4) (.int 1))) .nil)))) .nil)))
 .nil) (.cons (.ite (.cmp .eq (.ix (.var 5) (.int 1)) (.str "end")) (.cons (.expr (.mt .append (.var 3) (.cons (.tup (.cons (.str "end") .nil)) .nil)))
 .nil) (.cons (.expr (.mt .append (.var 3) (.cons (.tup (.cons (.str "spin") .nil)) .nil)))
 .nil))
 .nil))
 .nil))
 .nil)
noncomputable def b_linked:Ss:=
 (.cons (.set [1] (.bf .dict1 (.cons (.comp ["place","row"] [none,none] [0,1] (.enm (.var 0)) .no (.tup (.cons (.ix (.var 1) (.int 0)) (.cons (.var 0) .nil)))) .nil)))
 (.cons (.set [2] (.call 18 (.cons (.var 0) (.cons (.var 1) .nil))))
 (.cons (.set [3] (.lst .nil))
 (.cons (.for_ [4,5] (.enm (.var 0)) Pz)
 Og))))
theorem Zj3:Yj (ck0 Q4 Wl FN GN BN) b_linked (Z4 Wl)=true:=by decide+kernel
noncomputable abbrev Js:Stmt:=top 32
noncomputable def Zk0:List Str:=["rows","memory","most","nodes","start"]
theorem Y40:FnScope Zk0 ["rows","memory","most"] (Z1 Js):=⟨rfl,rfl,rfl,by decide+kernel,rfl,by decide+kernel,by decide+kernel⟩
noncomputable def b_run:Ss:=
 (.cons (.set [3,4] (.call 19 (.cons (.var 0) .nil)))
 (.cons (.ret (.call 17 (.cons (.var 3) (.cons (.var 4) (.cons (.var 1) (.cons (.var 2) .nil))))))
 .nil))
theorem Ye2:Yj (ck0 Zk0 Js FN GN BN) b_run (Z4 Js)=true:=by decide+kernel
noncomputable abbrev Xg:Stmt:=top 34
noncomputable def Tf:List Str:=["form","memory","most"]
theorem Eg:FnScope Tf ["form","memory","most"] (Z1 Xg):=⟨rfl,rfl,rfl,by decide+kernel,rfl,by decide+kernel,by decide+kernel⟩
noncomputable def b_run_form:Ss:=
 (.cons (.ret (.call 20 (.cons (.call 7 (.cons (.var 0) .nil)) (.cons (.var 1) (.cons (.var 2) .nil)))))
 .nil)
theorem Z33:Yj (ck0 Tf Xg FN GN BN) b_run_form (Z4 Xg)=true:=by decide+kernel
noncomputable abbrev Rm:Stmt:=top 36
noncomputable def Ct:List Str:=["_law_script","_law_k"]
theorem Zu3:FnScope Ct ["_law_script","_law_k"] (Z1 Rm):=⟨rfl,rfl,rfl,by decide+kernel,rfl,by decide+kernel,by decide+kernel⟩
noncomputable def Cw:Ss:=
 (.cons (.ret (.ix (.var 0) (.bin .mod (.var 1) (.bf .len (.cons (.var 0) .nil)))))
 .nil)
noncomputable def b_Lraw:Ss:=
 (.cons (.ite (.cmp .eq (.bf .len (.cons (.var 0) .nil)) (.int 0)) (.cons (.ret (.var 1))
 .nil) .nil)
 Cw)
theorem Y35:Yj (ck0 Ct Rm FN GN BN) b_Lraw (Z4 Rm)=true:=by decide+kernel
noncomputable abbrev Ri:Stmt:=top 37
noncomputable def Ez:List Str:=["_law_script","_law_k","_law_turn"]
theorem Zw2:FnScope Ez ["_law_script","_law_k"] (Z1 Ri):=⟨rfl,rfl,rfl,by decide+kernel,rfl,by decide+kernel,by decide+kernel⟩
noncomputable def C8:Ss:=
 (.cons (.set [2] (.bin .fdiv (.var 1) (.bf .len (.cons (.var 0) .nil))))
 (.cons (.ret (.bin .mod (.bin .mul (.bin .add (.bin .mod (.call 22 (.cons (.var 0) (.cons (.var 1) .nil))) (.int 2147483629)) (.int 2)) (.bin .add (.int 48271) (.bin .mul (.bin .mul (.int 7) (.var 2)) (.var 2)))) (.int 2147483647)))
 .nil))
noncomputable def b_Lmix:Ss:=
 (.cons (.ite (.cmp .eq (.bf .len (.cons (.var 0) .nil)) (.int 0)) (.cons (.ret (.bin .mod (.bin .mul (.bin .add (.bin .mul (.var 1) (.var 1)) (.int 3)) (.int 48271)) (.int 2147483647)))
 .nil) .nil)
 C8)
theorem Y78:Yj (ck0 Ez Ri FN GN BN) b_Lmix (Z4 Ri)=true:=by decide+kernel
noncomputable abbrev Wi:Stmt:=top 38
noncomputable def Wg:List Str:=["_law_found","_law_due","_law_one","_law_other"]
theorem Qh:FnScope Wg ["_law_found","_law_due"] (Z1 Wi):=⟨rfl,rfl,rfl,by decide+kernel,rfl,by decide+kernel,by decide+kernel⟩
noncomputable def Os:Ss:=
 (.cons (.ret (.bl true))
 .nil)
noncomputable def Om:Ss:=
 (.cons (.ite (.not (.call 24 (.cons (.var 2) (.cons (.var 3) .nil)))) (.cons (.ret (.bl false))
 .nil) .nil)
 .nil)
noncomputable def O1:Ss:=
 (.cons (.for_ [2,3] (.zip (.cons (.var 0) (.cons (.var 1) .nil))) Om)
 Os)
noncomputable def R8:Ss:=
 (.cons (.ite (.cmp .ne (.bf .len (.cons (.var 0) .nil)) (.bf .len (.cons (.var 1) .nil))) (.cons (.ret (.bl false))
 .nil) .nil)
 O1)
noncomputable def Sx:Ss:=
 (.cons (.ite (.bop true (.cons (.bf .isinst (.cons (.var 1) (.cons (.ty .tuple) .nil))) (.cons (.not (.bf .isinst (.cons (.var 0) (.cons (.ty .tuple) .nil)))) .nil))) (.cons (.ret (.bl false))
 .nil) .nil)
 R8)
noncomputable def Rb:Ss:=
 (.cons (.ite (.bop true (.cons (.bf .isinst (.cons (.var 1) (.cons (.ty .list) .nil))) (.cons (.not (.bf .isinst (.cons (.var 0) (.cons (.ty .list) .nil)))) .nil))) (.cons (.ret (.bl false))
 .nil) .nil)
 Sx)
noncomputable def T7:Ss:=
 (.cons (.ite (.bf .isinst (.cons (.var 1) (.cons (.ty .str) .nil))) (.cons (.ret (.bop true (.cons (.bf .isinst (.cons (.var 0) (.cons (.ty .str) .nil))) (.cons (.cmp .eq (.var 0) (.var 1)) .nil))))
 .nil) .nil)
 Rb)
noncomputable def Wu:Ss:=
 (.cons (.ite (.bf .isinst (.cons (.var 1) (.cons (.ty .int) .nil))) (.cons (.ret (.bop true (.cons (.bf .isinst (.cons (.var 0) (.cons (.ty .int) .nil))) (.cons (.not (.bf .isinst (.cons (.var 0) (.cons (.ty .bool) .nil)))) (.cons (.cmp .eq (.var 0) (.var 1)) .nil)))))
 .nil) .nil)
 T7)
noncomputable def b_Lalike:Ss:=
 (.cons (.ite (.bf .isinst (.cons (.var 1) (.cons (.ty .bool) .nil))) (.cons (.ret (.bop true (.cons (.bf .isinst (.cons (.var 0) (.cons (.ty .bool) .nil))) (.cons (.cmp .eq (.var 0) (.var 1)) .nil))))
 .nil) .nil)
 Wu)
theorem J2:Yj (ck0 Wg Wi FN GN BN) b_Lalike (Z4 Wi)=true:=by decide+kernel
noncomputable abbrev Yd:Stmt:=top 39
noncomputable def Xu:List Str:=["_law_found","_law_due","_law_name"]
theorem Qf:FnScope Xu ["_law_found","_law_due"] (Z1 Yd):=⟨rfl,rfl,rfl,by decide+kernel,rfl,by decide+kernel,by decide+kernel⟩
noncomputable def Vf:Ss:=
 (.cons (.ret (.bl true))
 .nil)
noncomputable def Vd:Ss:=
 (.cons (.ite (.bop false (.cons (.cmp .notin (.var 2) (.var 0)) (.cons (.not (.call 24 (.cons (.ix (.var 0) (.var 2)) (.cons (.ix (.var 1) (.var 2)) .nil)))) .nil))) (.cons (.ret (.bl false))
 .nil) .nil)
 .nil)
noncomputable def Vg:Ss:=
 (.cons (.forK [2] (.var 1) Vd)
 Vf)
noncomputable def b_Lsame_memory:Ss:=
 (.cons (.ite (.bop false (.cons (.not (.bf .isinst (.cons (.var 0) (.cons (.ty .dict) .nil)))) (.cons (.cmp .ne (.bf .len (.cons (.var 0) .nil)) (.bf .len (.cons (.var 1) .nil))) .nil))) (.cons (.ret (.bl false))
 .nil) .nil)
 Vg)
theorem Pn:Yj (ck0 Xu Yd FN GN BN) b_Lsame_memory (Z4 Yd)=true:=by decide+kernel
noncomputable abbrev X2:Stmt:=top 40
noncomputable def V3:List Str:=["_law_way","_law_name","_law_limit","_law_number","_law_grow","_law_turn"]
theorem Jq:FnScope V3 ["_law_way","_law_name","_law_limit","_law_number"] (Z1 X2):=⟨rfl,rfl,rfl,by decide+kernel,rfl,by decide+kernel,by decide+kernel⟩
noncomputable def So:Ss:=
 (.cons (.set [5] (.tup (.cons (.str "choice") (.cons (.var 1) (.cons (.str "<") (.cons (.var 2) (.cons (.lst (.cons (.tup (.cons (.str "leave") (.cons (.bin .add (.var 3) (.int 1)) .nil))) .nil)) (.cons (.lst .nil) .nil))))))))
 (.cons (.ret (.lst (.cons (.tup (.cons (.str "round") (.cons (.var 3) (.cons (.lst (.cons (.tup (.cons (.str "part") (.cons (.bin .add (.var 3) (.int 1)) (.cons (.lst (.cons (.var 4) (.cons (.var 5) (.cons (.tup (.cons (.str "leave") (.cons (.var 3) .nil))) .nil)))) .nil)))) .nil)) .nil)))) .nil)))
 .nil))
noncomputable def Sj:Ss:=
 (.cons (.ite (.cmp .eq (.var 0) (.int 1)) (.cons (.set [5] (.tup (.cons (.str "choice") (.cons (.var 1) (.cons (.str "<") (.cons (.var 2) (.cons (.lst .nil) (.cons (.lst (.cons (.tup (.cons (.str "leave") (.cons (.var 3) .nil))) .nil)) .nil))))))))
 (.cons (.ret (.lst (.cons (.tup (.cons (.str "round") (.cons (.var 3) (.cons (.lst (.cons (.var 4) (.cons (.var 5) .nil))) .nil)))) .nil)))
 .nil)) .nil)
 So)
noncomputable def b_Lcounting:Ss:=
 (.cons (.set [4] (.tup (.cons (.str "sum") (.cons (.var 1) (.cons (.var 1) (.cons (.str "+") (.cons (.int 1) .nil)))))))
 (.cons (.ite (.cmp .eq (.var 0) (.int 0)) (.cons (.set [5] (.tup (.cons (.str "choice") (.cons (.var 1) (.cons (.str "<") (.cons (.var 2) (.cons (.lst (.cons (.tup (.cons (.str "again") (.cons (.var 3) .nil))) .nil)) (.cons (.lst .nil) .nil))))))))
 (.cons (.ret (.lst (.cons (.tup (.cons (.str "round") (.cons (.var 3) (.cons (.lst (.cons (.var 4) (.cons (.var 5) (.cons (.tup (.cons (.str "leave") (.cons (.var 3) .nil))) .nil)))) .nil)))) .nil)))
 .nil)) .nil)
 Sj))
theorem E9:Yj (ck0 V3 X2 FN GN BN) b_Lcounting (Z4 X2)=true:=by decide+kernel
noncomputable abbrev Vy:Stmt:=top 41
noncomputable def Nc:List Str:=["_law_cell","_law_many","_law_words","_law_rounds","_law_found","_law_k"]
theorem Zl6:FnScope Nc ["_law_cell","_law_many"] (Z1 Vy):=⟨rfl,rfl,rfl,by decide+kernel,rfl,by decide+kernel,by decide+kernel⟩
noncomputable def Gy:Ss:=
 (.cons (.ret (.var 4))
 .nil)
noncomputable def Ff:Ss:=
 (.cons (.set [4] (.lst (.cons (.tup (.cons (.ix (.var 2) (.var 5)) (.cons (.bin .add (.int 100) (.var 5)) (.cons (.var 4) .nil)))) .nil)))
 .nil)
noncomputable def Se:Ss:=
 (.cons (.for_ [5] (.rngd (.var 1) (.neg (.int 1)) (.neg (.int 1))) Ff)
 Gy)
noncomputable def Qc:Ss:=
 (.cons (.ite (.bop true (.cons (.cmp .eq (.bin .mod (.var 0) (.int 3)) (.int 2)) (.cons (.cmp .gt (.var 1) (.int 0)) .nil))) (.cons (.set [4] (.lst (.cons (.tup (.cons (.str "leave") (.cons (.bin .add (.int 101) (.bin .mod (.bin .fdiv (.var 0) (.int 3)) (.var 1))) .nil))) .nil)))
 .nil) .nil)
 Se)
noncomputable def b_Lspin:Ss:=
 (.cons (.set [2] (.bin .add (.lst (.cons (.str "round") .nil)) (.comp ["_law_k","_law_cell"] [none,(some 0)] [0] (.rng1 (.var 1)) .no (.ix (.lst (.cons (.str "round") (.cons (.str "part") .nil))) (.bin .mod (.bin .fdiv (.var 1) (.bin .add (.int 1) (.bin .mul (.var 0) (.var 0)))) (.int 2))))))
 (.cons (.set [3] (.comp ["_law_k","_law_words"] [none,(some 2)] [0] (.rng1 (.bf .len (.cons (.var 2) .nil))) (.yes (.cmp .eq (.ix (.var 1) (.var 0)) (.str "round"))) (.var 0)))
 (.cons (.set [4] (.lst .nil))
 (.cons (.ite (.cmp .eq (.bin .mod (.var 0) (.int 3)) (.int 1)) (.cons (.set [4] (.lst (.cons (.tup (.cons (.str "again") (.cons (.bin .add (.int 100) (.ix (.var 3) (.bin .mod (.bin .fdiv (.var 0) (.int 3)) (.bf .len (.cons (.var 3) .nil))))) .nil))) .nil)))
 .nil) .nil)
 Qc))))
theorem Zu7:Yj (ck0 Nc Vy FN GN BN) b_Lspin (Z4 Vy)=true:=by decide+kernel
noncomputable abbrev Vt:Stmt:=top 42
noncomputable def Nr:List Str:=["_law_way","_law_name","_law_spin_here"]
theorem Zj4:FnScope Nr ["_law_way","_law_name","_law_spin_here"] (Z1 Vt):=⟨rfl,rfl,rfl,by decide+kernel,rfl,by decide+kernel,by decide+kernel⟩
noncomputable def Jp:Ss:=
 (.cons (.ret (.var 2))
 .nil)
noncomputable def Fa:Ss:=
 (.cons (.ite (.cmp .eq (.var 0) (.int 3)) (.cons (.ret (.lst (.cons (.tup (.cons (.str "sum") (.cons (.str "none9") (.cons (.int 7) (.cons (.str "rest") (.cons (.str "nought") .nil)))))) .nil)))
 .nil) .nil)
 Jp)
noncomputable def Gg:Ss:=
 (.cons (.ite (.cmp .eq (.var 0) (.int 2)) (.cons (.ret (.lst (.cons (.tup (.cons (.str "sum") (.cons (.var 1) (.cons (.var 1) (.cons (.str "/") (.cons (.int 0) .nil)))))) .nil)))
 .nil) .nil)
 Fa)
noncomputable def Je:Ss:=
 (.cons (.ite (.cmp .eq (.var 0) (.int 1)) (.cons (.ret (.lst (.cons (.tup (.cons (.str "end") .nil)) (.cons (.tup (.cons (.str "sum") (.cons (.var 1) (.cons (.int 3) (.cons (.str "+") (.cons (.int 4) .nil)))))) .nil))))
 .nil) .nil)
 Gg)
noncomputable def b_Llast:Ss:=
 (.cons (.ite (.cmp .eq (.var 0) (.int 0)) (.cons (.ret (.lst .nil))
 .nil) .nil)
 Je)
theorem Zt7:Yj (ck0 Nr Vt FN GN BN) b_Llast (Z4 Vt)=true:=by decide+kernel
noncomputable abbrev W2:Stmt:=top 43
noncomputable def Sh:List Str:=["_law_form","_law_cell","_law_many","_law_k"]
theorem Bv:FnScope Sh ["_law_form","_law_cell","_law_many"] (Z1 W2):=⟨rfl,rfl,rfl,by decide+kernel,rfl,by decide+kernel,by decide+kernel⟩
noncomputable def Pd:Ss:=
 (.cons (.ret (.var 0))
 .nil)
noncomputable def Q9:Ss:=
 (.cons (.ite (.cmp .eq (.bin .mod (.bin .fdiv (.var 1) (.bin .add (.int 1) (.bin .mul (.var 3) (.var 3)))) (.int 2)) (.int 0)) (.cons (.set [0] (.lst (.cons (.tup (.cons (.str "part") (.cons (.bin .add (.int 1000) (.var 3)) (.cons (.var 0) .nil)))) .nil)))
 .nil) (.cons (.set [0] (.lst (.cons (.tup (.cons (.str "round") (.cons (.bin .add (.int 1000) (.var 3)) (.cons (.bin .add (.var 0) (.lst (.cons (.tup (.cons (.str "leave") (.cons (.bin .add (.int 1000) (.var 3)) .nil))) .nil))) .nil)))) .nil)))
 .nil))
 .nil)
noncomputable def b_Lwithin:Ss:=
 (.cons (.for_ [3] (.rng1 (.var 2)) Q9)
 Pd)
theorem Z64:Yj (ck0 Sh W2 FN GN BN) b_Lwithin (Z4 W2)=true:=by decide+kernel
noncomputable abbrev Wj:Stmt:=top 44
noncomputable def Q6:List Str:=["_law_name","_law_start","_law_many","_law_most","_law_deeds_here","_law_k","_law_now"]
theorem Z54:FnScope Q6 ["_law_name","_law_start","_law_many","_law_most"] (Z1 Wj):=⟨rfl,rfl,rfl,by decide+kernel,rfl,by decide+kernel,by decide+kernel⟩
noncomputable def Ou:Ss:=
 (.cons (.ret (.var 4))
 .nil)
noncomputable def Ol:Ss:=
 (.cons (.set [6] (.bin .add (.bin .add (.var 1) (.bin .fdiv (.var 5) (.int 2))) (.int 1)))
 (.cons (.ite (.cmp .eq (.bin .mod (.var 5) (.int 2)) (.int 0)) (.cons (.expr (.mt .append (.var 4) (.cons (.tup (.cons (.str "sum") (.cons (.var 0) (.cons (.bin .sub (.var 6) (.int 1)) (.cons (.str "+") (.cons (.int 1) (.cons (.var 6) .nil))))))) .nil)))
 .nil) (.cons (.expr (.mt .append (.var 4) (.cons (.tup (.cons (.str "test") (.cons (.var 6) (.cons (.str "<") (.cons (.bin .add (.var 1) (.var 2)) (.cons (.cmp .lt (.var 6) (.bin .add (.var 1) (.var 2))) .nil)))))) .nil)))
 .nil))
 .nil))
noncomputable def b_Ldeeds:Ss:=
 (.cons (.set [4] (.lst .nil))
 (.cons (.for_ [5] (.rng1 (.bf .min2 (.cons (.bin .mul (.int 2) (.var 2)) (.cons (.var 3) .nil)))) Ol)
 Ou))
theorem Zm0:Yj (ck0 Q6 Wj FN GN BN) b_Ldeeds (Z4 Wj)=true:=by decide+kernel
noncomputable abbrev Vo:Stmt:=top 45
noncomputable def Nl:List Str:=["_law_way","_law_many","_law_most"]
theorem Zg6:FnScope Nl ["_law_way","_law_many","_law_most"] (Z1 Vo):=⟨rfl,rfl,rfl,by decide+kernel,rfl,by decide+kernel,by decide+kernel⟩
noncomputable def G2:Ss:=
 (.cons (.ret (.ix (.lst (.cons (.str "on") (.cons (.str "fault") .nil))) (.bf .int1 (.cons (.cmp .gt (.var 2) (.bin .mul (.int 2) (.var 1))) .nil))))
 .nil)
noncomputable def Pb:Ss:=
 (.cons (.ite (.cmp .lt (.var 0) (.int 2)) (.cons (.ret (.str "end"))
 .nil) .nil)
 G2)
noncomputable def b_Lword:Ss:=
 (.cons (.ite (.bop false (.cons (.cmp .gt (.var 0) (.int 3)) (.cons (.cmp .lt (.var 2) (.bin .mul (.int 2) (.var 1))) .nil))) (.cons (.ret (.str "on"))
 .nil) .nil)
 Pb)
theorem Y31:Yj (ck0 Nl Vo FN GN BN) b_Lword (Z4 Vo)=true:=by decide+kernel
noncomputable abbrev Fi:Stmt:=top 46
noncomputable def Zn1:List Str:=["_law_script","_law_name","_law_start","_law_many","_law_limit","_law_form","_law_way","_law_spin_here","_law_memory","_law_choice","_law_most","_law_found","_law_deeds_here","_law_behind"]
theorem Yc0:FnScope Zn1 ["_law_script"] (Z1 Fi):=⟨rfl,rfl,rfl,by decide+kernel,rfl,by decide+kernel,by decide+kernel⟩
noncomputable def Za7:Ss:=
 (.cons (.ret (.bop true (.cons (.call 24 (.cons (.ix (.var 11) (.int 0)) (.cons (.var 12) .nil))) (.cons (.call 25 (.cons (.ix (.var 11) (.int 2)) (.cons (.var 13) .nil))) .nil))))
 .nil)
noncomputable def Fx:Ss:=
 (.cons (.ite (.bop false (.cons (.not (.bf .isinst (.cons (.var 11) (.cons (.ty .tuple) .nil)))) (.cons (.cmp .ne (.bf .len (.cons (.var 11) .nil)) (.int 3)) (.cons (.not (.call 24 (.cons (.ix (.var 11) (.int 1)) (.cons (.call 31 (.cons (.var 6) (.cons (.var 3) (.cons (.var 10) .nil)))) .nil)))) .nil)))) (.cons (.ret (.bl false))
 .nil) .nil)
 Za7)
noncomputable def Nz:Ss:=
 (.cons (.set [12] (.call 30 (.cons (.var 1) (.cons (.var 2) (.cons (.var 3) (.cons (.var 10) .nil))))))
 (.cons (.set [13] (.bf .dict1 (.cons (.var 8) .nil)))
 (.cons (.ite (.cmp .gt (.bf .len (.cons (.var 12) .nil)) (.int 0)) (.cons (.put (.var 13) (.var 1) (.bin .add (.var 2) (.bin .fdiv (.bin .add (.bf .len (.cons (.var 12) .nil)) (.int 1)) (.int 2))))
 .nil) .nil)
 Fx)))
noncomputable def E1:Ss:=
 (.cons (.set [9] (.bin .mod (.bin .fdiv (.call 23 (.cons (.var 0) (.cons (.int 10) .nil))) (.int 8)) (.int 6)))
 (.cons (.set [10] (.ix (.lst (.cons (.int 100) (.cons (.int 0) (.cons (.bin .mul (.int 2) (.var 3)) (.cons (.bin .sub (.bin .mul (.int 2) (.var 3)) (.int 1)) (.cons (.bin .add (.bin .mul (.int 2) (.var 3)) (.int 1)) (.cons (.bin .mod (.call 22 (.cons (.var 0) (.cons (.int 11) .nil))) (.int 200)) .nil))))))) (.var 9)))
 (.cons (.ite (.cmp .eq (.var 9) (.int 0)) (.cons (.set [11] (.call 34 (.cons (.var 5) (.cons (.var 8) .nil))))
 .nil) (.cons (.set [11] (.call 21 (.cons (.var 5) (.cons (.var 8) (.cons (.var 10) .nil)))))
 .nil))
 Nz)))
noncomputable def Ec:Ss:=
 (.cons (.set [4] (.ix (.lst (.cons (.bin .add (.var 2) (.var 3)) (.cons (.str "limit") .nil))) (.bin .mod (.bin .fdiv (.call 23 (.cons (.var 0) (.cons (.int 3) .nil))) (.int 8)) (.int 2))))
 (.cons (.set [5] (.call 26 (.cons (.bin .mod (.bin .fdiv (.call 23 (.cons (.var 0) (.cons (.int 4) .nil))) (.int 8)) (.int 3)) (.cons (.var 1) (.cons (.var 4) (.cons (.int 5) .nil))))))
 (.cons (.set [6] (.bin .mod (.bin .fdiv (.call 23 (.cons (.var 0) (.cons (.int 5) .nil))) (.int 8)) (.int 6)))
 (.cons (.set [7] (.call 27 (.cons (.call 23 (.cons (.var 0) (.cons (.int 6) .nil))) (.cons (.bin .mod (.bin .fdiv (.call 23 (.cons (.var 0) (.cons (.int 7) .nil))) (.int 8)) (.int 20)) .nil))))
 (.cons (.set [5] (.call 29 (.cons (.bin .add (.var 5) (.call 28 (.cons (.var 6) (.cons (.var 1) (.cons (.var 7) .nil))))) (.cons (.call 23 (.cons (.var 0) (.cons (.int 8) .nil))) (.cons (.bin .mod (.bin .fdiv (.call 23 (.cons (.var 0) (.cons (.int 9) .nil))) (.int 8)) (.int 61)) .nil)))))
 (.cons (.set [8] (.dct (.str "limit") (.bin .add (.var 2) (.var 3))))
 (.cons (.ite (.cmp .ne (.var 2) (.int 0)) (.cons (.put (.var 8) (.var 1) (.var 2))
 .nil) .nil)
 E1)))))))
noncomputable def Fq:Ss:=
 (.cons (.set [3] (.bin .add (.int 1) (.bin .mod (.bin .fdiv (.call 23 (.cons (.var 0) (.cons (.int 2) .nil))) (.int 8)) (.int 50))))
 (.cons (.ite (.cmp .eq (.bin .mod (.bin .fdiv (.call 23 (.cons (.var 0) (.cons (.int 12) .nil))) (.int 8)) (.int 8)) (.int 5)) (.cons (.set [3] (.bin .add (.int 600) (.bin .mod (.bin .fdiv (.call 23 (.cons (.var 0) (.cons (.int 12) .nil))) (.int 64)) (.int 900))))
 .nil) .nil)
 Ec))
noncomputable def b_law:Ss:=
 (.cons (.set [1] (.ix (.lst (.cons (.str "x") (.cons (.str "n1") (.cons (.str "counter1") (.cons (.str "e") .nil))))) (.bin .mod (.bin .fdiv (.call 23 (.cons (.var 0) (.cons (.int 0) .nil))) (.int 8)) (.int 4))))
 (.cons (.set [2] (.bin .sub (.bin .mod (.call 22 (.cons (.var 0) (.cons (.int 1) .nil))) (.bin .add (.bin .mul (.int 2) (.bin .pow (.int 10) (.int 18))) (.int 1))) (.bin .pow (.int 10) (.int 18))))
 (.cons (.ite (.cmp .eq (.bin .mod (.bin .fdiv (.call 23 (.cons (.var 0) (.cons (.int 0) .nil))) (.int 32)) (.int 2)) (.int 0)) (.cons (.set [2] (.int 0))
 .nil) .nil)
 Fq)))
theorem Ye0:Yj (ck0 Zn1 Fi FN GN BN) b_law (Z4 Fi)=true:=by decide+kernel
noncomputable def Y99:Stmt→Stmt
 | .ClassDef _ _ _ (b::_) _ _ _ _ _ _ _=>b
 | s=>s
noncomputable abbrev Jj:Stmt:=Y99 (top 14)
theorem Zx0:FnScope ["self","row"] ["self","row"] (Z1 Jj):=⟨rfl,rfl,rfl,by decide+kernel,rfl,by decide+kernel,by decide+kernel⟩
theorem Zx9:Zi9 Jj=true:=by decide+kernel
set_option genInjectivity false in
structure Adr where
 mk::
 a_line_of:Addr
 d_line_of:FuncData
 a_told_within:Addr
 d_told_within:FuncData
 a_lines_of:Addr
 d_lines_of:FuncData
 a_with_goal:Addr
 d_with_goal:FuncData
 a_begin_rows:Addr
 d_begin_rows:FuncData
 a_begin_no:Addr
 d_begin_no:FuncData
 a_finish_rows:Addr
 d_finish_rows:FuncData
 a_rows_of:Addr
 d_rows_of:FuncData
 a_quotient:Addr
 d_quotient:FuncData
 a_rest:Addr
 d_rest:FuncData
 a_made:Addr
 d_made:FuncData
 a_holds:Addr
 d_holds:FuncData
 a_worth:Addr
 d_worth:FuncData
 a_deed_of_sum:Addr
 d_deed_of_sum:FuncData
 a_deed_of_test:Addr
 d_deed_of_test:FuncData
 a_behind:Addr
 d_behind:FuncData
 a_deed_of:Addr
 d_deed_of:FuncData
 a_run_from:Addr
 d_run_from:FuncData
 a_landings:Addr
 d_landings:FuncData
 a_linked:Addr
 d_linked:FuncData
 a_run:Addr
 d_run:FuncData
 a_run_form:Addr
 d_run_form:FuncData
 a_Lraw:Addr
 d_Lraw:FuncData
 a_Lmix:Addr
 d_Lmix:FuncData
 a_Lalike:Addr
 d_Lalike:FuncData
 a_Lsame_memory:Addr
 d_Lsame_memory:FuncData
 a_Lcounting:Addr
 d_Lcounting:FuncData
 a_Lspin:Addr
 d_Lspin:FuncData
 a_Llast:Addr
 d_Llast:FuncData
 a_Lwithin:Addr
 d_Lwithin:FuncData
 a_Ldeeds:Addr
 d_Ldeeds:FuncData
 a_Lword:Addr
 d_Lword:FuncData
 a_law:Addr
 d_law:FuncData
 a_JumpError:Addr
 a_ByNought:Addr
 a_init:Addr
 d_init:FuncData
structure Tx(K:Ab)(mg:Str→Option Value)(t:Adr):Prop where
 mk::
 F_line_of:Fun K "line_of" "line_of" Xx t.a_line_of t.d_line_of
 g_line_of:mg "line_of"=some (.ref t.a_line_of)
 k_line_of:Ad K (.ref t.a_line_of)=true
 b_line_of:Zu K t.d_line_of ["statement"] []
 F_told_within:Fun K "told_within" "told_within" Yo t.a_told_within t.d_told_within
 g_told_within:mg "told_within"=some (.ref t.a_told_within)
 k_told_within:Ad K (.ref t.a_told_within)=true
 b_told_within:Zu K t.d_told_within ["statement"] []
 F_lines_of:Fun K "lines_of" "lines_of" Xd t.a_lines_of t.d_lines_of
 g_lines_of:mg "lines_of"=some (.ref t.a_lines_of)
 k_lines_of:Ad K (.ref t.a_lines_of)=true
 b_lines_of:Zu K t.d_lines_of ["form"] []
 F_with_goal:Fun K "with_goal" "with_goal" X1 t.a_with_goal t.d_with_goal
 g_with_goal:mg "with_goal"=some (.ref t.a_with_goal)
 k_with_goal:Ad K (.ref t.a_with_goal)=true
 b_with_goal:Zu K t.d_with_goal ["row","places"] []
 F_begin_rows:Fun K "begin_rows" "begin_rows" Yv t.a_begin_rows t.d_begin_rows
 g_begin_rows:mg "begin_rows"=some (.ref t.a_begin_rows)
 k_begin_rows:Ad K (.ref t.a_begin_rows)=true
 b_begin_rows:Zu K t.d_begin_rows ["line","told","places"] []
 F_begin_no:Fun K "begin_no" "begin_no" Xa t.a_begin_no t.d_begin_no
 g_begin_no:mg "begin_no"=some (.ref t.a_begin_no)
 k_begin_no:Ad K (.ref t.a_begin_no)=true
 b_begin_no:Zu K t.d_begin_no ["choice","told","places"] []
 F_finish_rows:Fun K "finish_rows" "finish_rows" Yk t.a_finish_rows t.d_finish_rows
 g_finish_rows:mg "finish_rows"=some (.ref t.a_finish_rows)
 k_finish_rows:Ad K (.ref t.a_finish_rows)=true
 b_finish_rows:Zu K t.d_finish_rows ["done","told","places"] []
 F_rows_of:Fun K "rows_of" "rows_of" Xz t.a_rows_of t.d_rows_of
 g_rows_of:mg "rows_of"=some (.ref t.a_rows_of)
 k_rows_of:Ad K (.ref t.a_rows_of)=true
 b_rows_of:Zu K t.d_rows_of ["form"] []
 F_quotient:Fun K "quotient" "quotient" Xi t.a_quotient t.d_quotient
 g_quotient:mg "quotient"=some (.ref t.a_quotient)
 k_quotient:Ad K (.ref t.a_quotient)=true
 b_quotient:Zu K t.d_quotient ["one","other"] []
 F_rest:Fun K "rest" "rest" Rv t.a_rest t.d_rest
 g_rest:mg "rest"=some (.ref t.a_rest)
 k_rest:Ad K (.ref t.a_rest)=true
 b_rest:Zu K t.d_rest ["one","other"] []
 F_made:Fun K "made" "made" Rt t.a_made t.d_made
 g_made:mg "made"=some (.ref t.a_made)
 k_made:Ad K (.ref t.a_made)=true
 b_made:Zu K t.d_made ["sign","one","other"] []
 F_holds:Fun K "holds" "holds" T5 t.a_holds t.d_holds
 g_holds:mg "holds"=some (.ref t.a_holds)
 k_holds:Ad K (.ref t.a_holds)=true
 b_holds:Zu K t.d_holds ["sign","one","other"] []
 F_worth:Fun K "worth" "worth" Vm t.a_worth t.d_worth
 g_worth:mg "worth"=some (.ref t.a_worth)
 k_worth:Ad K (.ref t.a_worth)=true
 b_worth:Zu K t.d_worth ["operand","memory"] []
 F_deed_of_sum:Fun K "deed_of_sum" "deed_of_sum" Yl t.a_deed_of_sum t.d_deed_of_sum
 g_deed_of_sum:mg "deed_of_sum"=some (.ref t.a_deed_of_sum)
 k_deed_of_sum:Ad K (.ref t.a_deed_of_sum)=true
 b_deed_of_sum:Zu K t.d_deed_of_sum ["name","one","sign","other","memory"] []
 F_deed_of_test:Fun K "deed_of_test" "deed_of_test" Yc t.a_deed_of_test t.d_deed_of_test
 g_deed_of_test:mg "deed_of_test"=some (.ref t.a_deed_of_test)
 k_deed_of_test:Ad K (.ref t.a_deed_of_test)=true
 b_deed_of_test:Zu K t.d_deed_of_test ["one","sign","other","memory"] []
 F_behind:Fun K "behind" "behind" Wn t.a_behind t.d_behind
 g_behind:mg "behind"=some (.ref t.a_behind)
 k_behind:Ad K (.ref t.a_behind)=true
 b_behind:Zu K t.d_behind ["node","deed","memory"] []
 F_deed_of:Fun K "deed_of" "deed_of" Xw t.a_deed_of t.d_deed_of
 g_deed_of:mg "deed_of"=some (.ref t.a_deed_of)
 k_deed_of:Ad K (.ref t.a_deed_of)=true
 b_deed_of:Zu K t.d_deed_of ["node","memory"] []
 F_run_from:Fun K "run_from" "run_from" X8 t.a_run_from t.d_run_from
 g_run_from:mg "run_from"=some (.ref t.a_run_from)
 k_run_from:Ad K (.ref t.a_run_from)=true
 b_run_from:Zu K t.d_run_from ["nodes","start","memory","most"] []
 F_landings:Fun K "landings" "landings" Xe t.a_landings t.d_landings
 g_landings:mg "landings"=some (.ref t.a_landings)
 k_landings:Ad K (.ref t.a_landings)=true
 b_landings:Zu K t.d_landings ["rows","places"] []
 F_linked:Fun K "linked" "linked" Wl t.a_linked t.d_linked
 g_linked:mg "linked"=some (.ref t.a_linked)
 k_linked:Ad K (.ref t.a_linked)=true
 b_linked:Zu K t.d_linked ["rows"] []
 F_run:Fun K "run" "run" Js t.a_run t.d_run
 g_run:mg "run"=some (.ref t.a_run)
 k_run:Ad K (.ref t.a_run)=true
 b_run:Zu K t.d_run ["rows","memory","most"] []
 e_run:∃tk,Zu K t.d_run ["rows","memory","most"] [.int 100 tk]
 F_run_form:Fun K "run_form" "run_form" Xg t.a_run_form t.d_run_form
 g_run_form:mg "run_form"=some (.ref t.a_run_form)
 k_run_form:Ad K (.ref t.a_run_form)=true
 b_run_form:Zu K t.d_run_form ["form","memory","most"] []
 e_run_form:∃tk,Zu K t.d_run_form ["form","memory","most"] [.int 100 tk]
 F_Lraw:Fun K "_law_raw" "_law_raw" Rm t.a_Lraw t.d_Lraw
 g_Lraw:mg "_law_raw"=some (.ref t.a_Lraw)
 k_Lraw:Ad K (.ref t.a_Lraw)=true
 b_Lraw:Zu K t.d_Lraw ["_law_script","_law_k"] []
 F_Lmix:Fun K "_law_mix" "_law_mix" Ri t.a_Lmix t.d_Lmix
 g_Lmix:mg "_law_mix"=some (.ref t.a_Lmix)
 k_Lmix:Ad K (.ref t.a_Lmix)=true
 b_Lmix:Zu K t.d_Lmix ["_law_script","_law_k"] []
 F_Lalike:Fun K "_law_alike" "_law_alike" Wi t.a_Lalike t.d_Lalike
 g_Lalike:mg "_law_alike"=some (.ref t.a_Lalike)
 k_Lalike:Ad K (.ref t.a_Lalike)=true
 b_Lalike:Zu K t.d_Lalike ["_law_found","_law_due"] []
 F_Lsame_memory:Fun K "_law_same_memory" "_law_same_memory" Yd t.a_Lsame_memory t.d_Lsame_memory
 g_Lsame_memory:mg "_law_same_memory"=some (.ref t.a_Lsame_memory)
 k_Lsame_memory:Ad K (.ref t.a_Lsame_memory)=true
 b_Lsame_memory:Zu K t.d_Lsame_memory ["_law_found","_law_due"] []
 F_Lcounting:Fun K "_law_counting" "_law_counting" X2 t.a_Lcounting t.d_Lcounting
 g_Lcounting:mg "_law_counting"=some (.ref t.a_Lcounting)
 k_Lcounting:Ad K (.ref t.a_Lcounting)=true
 b_Lcounting:Zu K t.d_Lcounting ["_law_way","_law_name","_law_limit","_law_number"] []
 F_Lspin:Fun K "_law_spin" "_law_spin" Vy t.a_Lspin t.d_Lspin
 g_Lspin:mg "_law_spin"=some (.ref t.a_Lspin)
 k_Lspin:Ad K (.ref t.a_Lspin)=true
 b_Lspin:Zu K t.d_Lspin ["_law_cell","_law_many"] []
 F_Llast:Fun K "_law_last" "_law_last" Vt t.a_Llast t.d_Llast
 g_Llast:mg "_law_last"=some (.ref t.a_Llast)
 k_Llast:Ad K (.ref t.a_Llast)=true
 b_Llast:Zu K t.d_Llast ["_law_way","_law_name","_law_spin_here"] []
 F_Lwithin:Fun K "_law_within" "_law_within" W2 t.a_Lwithin t.d_Lwithin
 g_Lwithin:mg "_law_within"=some (.ref t.a_Lwithin)
 k_Lwithin:Ad K (.ref t.a_Lwithin)=true
 b_Lwithin:Zu K t.d_Lwithin ["_law_form","_law_cell","_law_many"] []
 F_Ldeeds:Fun K "_law_deeds" "_law_deeds" Wj t.a_Ldeeds t.d_Ldeeds
 g_Ldeeds:mg "_law_deeds"=some (.ref t.a_Ldeeds)
 k_Ldeeds:Ad K (.ref t.a_Ldeeds)=true
 b_Ldeeds:Zu K t.d_Ldeeds ["_law_name","_law_start","_law_many","_law_most"] []
 F_Lword:Fun K "_law_word" "_law_word" Vo t.a_Lword t.d_Lword
 g_Lword:mg "_law_word"=some (.ref t.a_Lword)
 k_Lword:Ad K (.ref t.a_Lword)=true
 b_Lword:Zu K t.d_Lword ["_law_way","_law_many","_law_most"] []
 F_law:Fun K "law" "law" Fi t.a_law t.d_law
 g_law:mg "law"=some (.ref t.a_law)
 k_law:Ad K (.ref t.a_law)=true
 b_law:Zu K t.d_law ["_law_script"] []
 z_list:mg "list"=none
 z_reversed:mg "reversed"=none
 z_len:mg "len"=none
 z_enumerate:mg "enumerate"=none
 z_isinstance:mg "isinstance"=none
 z_str:mg "str"=none
 z_dict:mg "dict"=none
 z_range:mg "range"=none
 z_zip:mg "zip"=none
 z_tuple:mg "tuple"=none
 z_int:mg "int"=none
 z_bool:mg "bool"=none
 z_min:mg "min"=none
 g_JumpError:mg "JumpError"=some (.ref t.a_JumpError)
 g_ByNought:mg "ByNought"=some (.ref t.a_ByNought)
 mk_ByNought:ExcMk K t.a_ByNought t.a_init
 set_ByNought:ExcSet K t.a_ByNought "row"
 get_ByNought:ExcGet K t.a_ByNought "row"
 is_ByNought:ExcIs K t.a_ByNought
 ca_ByNought:Catch K t.a_ByNought t.a_JumpError true
 co_ByNought:Catch K t.a_ByNought t.a_ByNought true
 kit_ByNought_JumpError:Hf K (.ref t.a_ByNought) (.ref t.a_JumpError)=some true
 kit_ByNought_ByNought:Hf K (.ref t.a_ByNought) (.ref t.a_ByNought)=some true
 kit_ByNought:Hf K (.ref t.a_ByNought) (.type "ValueError")=some true
 i_ok:∀(P:Program) (w:World) (mg:Str→Option Value) (base:Heap),FnOk P w K mg base CX0 1 t.a_init t.d_init ["self","row"] (Of K)
 i_b1:Zu K t.d_init ["self","row"] [.none]
 i_b0:Zu K t.d_init ["self","row"] []
 q_ELSE:∃a,mg "ELSE"=some (.ref a)∧∃(o:Obj) (its:Array Value) (n:Nat),K.lookup a=some o∧o.cls= .type "tuple"∧o.data= .seq its n∧its.size≤sizeLine∧Vals [.str "else"] its.toList
 q_DONE:∃a,mg "DONE"=some (.ref a)∧∃(o:Obj) (its:Array Value) (n:Nat),K.lookup a=some o∧o.cls= .type "tuple"∧o.data= .seq its n∧its.size≤sizeLine∧Vals [.str "done"] its.toList
 q_OPENERS:∃a,mg "OPENERS"=some (.ref a)∧∃(o:Obj) (its:Array Value) (n:Nat),K.lookup a=some o∧o.cls= .type "tuple"∧o.data= .seq its n∧its.size≤sizeLine∧Vals [.str "choice",.str "round",.str "part"] its.toList
theorem ents{K:Ab}{mg:Str→Option Value}{t:Adr}(T:Tx K mg t):∀x∈FN,Ent K mg x:=
 all_cons ⟨_,_,_,T.g_line_of,T.k_line_of,T.b_line_of⟩ (all_cons ⟨_,_,_,T.g_told_within,T.k_told_within,T.b_told_within⟩ (all_cons ⟨_,_,_,T.g_lines_of,T.k_lines_of,T.b_lines_of⟩ (all_cons ⟨_,_,_,T.g_with_goal,T.k_with_goal,T.b_with_goal⟩ (all_cons ⟨_,_,_,T.g_begin_rows,T.k_begin_rows,T.b_begin_rows⟩ (all_cons ⟨_,_,_,T.g_begin_no,T.k_begin_no,T.b_begin_no⟩ (all_cons ⟨_,_,_,T.g_finish_rows,T.k_finish_rows,T.b_finish_rows⟩ (all_cons ⟨_,_,_,T.g_rows_of,T.k_rows_of,T.b_rows_of⟩ (all_cons ⟨_,_,_,T.g_quotient,T.k_quotient,T.b_quotient⟩ (all_cons ⟨_,_,_,T.g_rest,T.k_rest,T.b_rest⟩ (all_cons ⟨_,_,_,T.g_made,T.k_made,T.b_made⟩ (all_cons ⟨_,_,_,T.g_holds,T.k_holds,T.b_holds⟩ (all_cons ⟨_,_,_,T.g_worth,T.k_worth,T.b_worth⟩ (all_cons ⟨_,_,_,T.g_deed_of_sum,T.k_deed_of_sum,T.b_deed_of_sum⟩ (all_cons ⟨_,_,_,T.g_deed_of_test,T.k_deed_of_test,T.b_deed_of_test⟩ (all_cons ⟨_,_,_,T.g_behind,T.k_behind,T.b_behind⟩ (all_cons ⟨_,_,_,T.g_deed_of,T.k_deed_of,T.b_deed_of⟩ (all_cons ⟨_,_,_,T.g_run_from,T.k_run_from,T.b_run_from⟩ (all_cons ⟨_,_,_,T.g_landings,T.k_landings,T.b_landings⟩ (all_cons ⟨_,_,_,T.g_linked,T.k_linked,T.b_linked⟩ (all_cons ⟨_,_,_,T.g_run,T.k_run,T.b_run⟩ (all_cons ⟨_,_,_,T.g_run_form,T.k_run_form,T.b_run_form⟩ (all_cons ⟨_,_,_,T.g_Lraw,T.k_Lraw,T.b_Lraw⟩ (all_cons ⟨_,_,_,T.g_Lmix,T.k_Lmix,T.b_Lmix⟩ (all_cons ⟨_,_,_,T.g_Lalike,T.k_Lalike,T.b_Lalike⟩ (all_cons ⟨_,_,_,T.g_Lsame_memory,T.k_Lsame_memory,T.b_Lsame_memory⟩ (all_cons ⟨_,_,_,T.g_Lcounting,T.k_Lcounting,T.b_Lcounting⟩ (all_cons ⟨_,_,_,T.g_Lspin,T.k_Lspin,T.b_Lspin⟩ (all_cons ⟨_,_,_,T.g_Llast,T.k_Llast,T.b_Llast⟩ (all_cons ⟨_,_,_,T.g_Lwithin,T.k_Lwithin,T.b_Lwithin⟩ (all_cons ⟨_,_,_,T.g_Ldeeds,T.k_Ldeeds,T.b_Ldeeds⟩ (all_cons ⟨_,_,_,T.g_Lword,T.k_Lword,T.b_Lword⟩ (all_cons ⟨_,_,_,T.g_law,T.k_law,T.b_law⟩ (all_cons ⟨_,_,_,T.g_run,T.k_run,T.b_run⟩ (all_cons ⟨_,_,_,T.g_run_form,T.k_run_form,T.b_run_form⟩ Ze4))))))))))))))))))))))))))))))))))
theorem blts{K:Ab}{mg:Str→Option Value}{t:Adr}(T:Tx K mg t):∀x∈BN,mg x=none:=
 all_cons T.z_list (all_cons T.z_reversed (all_cons T.z_len (all_cons T.z_enumerate (all_cons T.z_isinstance (all_cons T.z_str (all_cons T.z_dict (all_cons T.z_range (all_cons T.z_zip (all_cons T.z_tuple (all_cons T.z_int (all_cons T.z_bool (all_cons T.z_min Ze4))))))))))))
set_option maxHeartbeats 0 in
theorem Yg7{K:Ab}{h:Heap}{mg:Str→Option Value}{f0 f1 f2 f3 f4 f5 f6 f7 f8 f9 f10 f11 f12 f13 f14 f15 f16 f17 f18 f19 f20 f21 f22 f23 f24 f25 f26 f27 f28 f29 f30 f31 f32 td20 td21:Addr}(X:K.In h)(G:h.Ns mainGlobals mg)
  {od0 an0 od1 an1 od2 an2 od3 an3 od4 an4 od5 an5 od6 an6 od7 an7 od8 an8 od9 an9 od10 an10 od11 an11 od12 an12 od13 an13 od14 an14 od15 an15 od16 an16 od17 an17 od18 an18 od19 an19 od20 an20 od21 an21 od22 an22 od23 an23 od24 an24 od25 an25 od26 an26 od27 an27 od28 an28 od29 an29 od30 an30 od31 an31 od32 an32:Option Addr} {sl0 sl1 sl2 sl3 sl4 sl5 sl6 sl7 sl8 sl9 sl10 sl11 sl12 sl13 sl14 sl15 sl16 sl17 sl18 sl19 sl20 sl21 sl22 sl23 sl24 sl25 sl26 sl27 sl28 sl29 sl30 sl31 sl32:Array (Option Value)} {oc0 kV0 dc0 pm0 cd0 ct0 oc1 kV1 dc1 pm1 cd1 ct1 oc2 kV2 dc2 pm2 cd2 ct2 oc3 kV3 dc3 pm3 cd3 ct3 oc4 kV4 dc4 pm4 cd4 ct4 oc5 kV5 dc5 pm5 cd5 ct5 oc6 kV6 dc6 pm6 cd6 ct6 oc7 kV7 dc7 pm7 cd7 ct7 oc8 kV8 dc8 pm8 cd8 ct8 oc9 kV9 dc9 pm9 cd9 ct9 oc10 kV10 dc10 pm10 cd10 ct10 oc11 kV11 dc11 pm11 cd11 ct11 oc12 kV12 dc12 pm12 cd12 ct12 oc13 kV13 dc13 pm13 cd13 ct13 oc14 kV14 dc14 pm14 cd14 ct14 oc15 kV15 dc15 pm15 cd15 ct15 oc16 kV16 dc16 pm16 cd16 ct16 oc17 kV17 dc17 pm17 cd17 ct17 oc18 kV18 dc18 pm18 cd18 ct18 oc19 kV19 dc19 pm19 cd19 ct19 oc20 kV20 dc20 pm20 cd20 ct20 oc21 kV21 dc21 pm21 cd21 ct21 oc22 kV22 dc22 pm22 cd22 ct22 oc23 kV23 dc23 pm23 cd23 ct23 oc24 kV24 dc24 pm24 cd24 ct24 oc25 kV25 dc25 pm25 cd25 ct25 oc26 kV26 dc26 pm26 cd26 ct26 oc27 kV27 dc27 pm27 cd27 ct27 oc28 kV28 dc28 pm28 cd28 ct28 oc29 kV29 dc29 pm29 cd29 ct29 oc30 kV30 dc30 pm30 cd30 ct30 oc31 kV31 dc31 pm31 cd31 ct31 oc32 kV32 dc32 pm32 cd32 ct32:Value}
  (a0:Ao K mainGlobals "line_of"=some (some (.ref f0))) (l0:K.lookup f0=some ⟨oc0,od0,.func (Au "line_of" "line_of" (Zh Xx) (Z4 Xx) (Z1 Xx) .none kV0 dc0 pm0 an0 cd0 ct0),sl0⟩) (c0:Ar K cd0 "line_of"=true) (k0:Ad K (.ref f0)=true)
  (a1:Ao K mainGlobals "told_within"=some (some (.ref f1))) (l1:K.lookup f1=some ⟨oc1,od1,.func (Au "told_within" "told_within" (Zh Yo) (Z4 Yo) (Z1 Yo) .none kV1 dc1 pm1 an1 cd1 ct1),sl1⟩) (c1:Ar K cd1 "told_within"=true) (k1:Ad K (.ref f1)=true)
  (a2:Ao K mainGlobals "lines_of"=some (some (.ref f2))) (l2:K.lookup f2=some ⟨oc2,od2,.func (Au "lines_of" "lines_of" (Zh Xd) (Z4 Xd) (Z1 Xd) .none kV2 dc2 pm2 an2 cd2 ct2),sl2⟩) (c2:Ar K cd2 "lines_of"=true) (k2:Ad K (.ref f2)=true)
  (a3:Ao K mainGlobals "with_goal"=some (some (.ref f3))) (l3:K.lookup f3=some ⟨oc3,od3,.func (Au "with_goal" "with_goal" (Zh X1) (Z4 X1) (Z1 X1) .none kV3 dc3 pm3 an3 cd3 ct3),sl3⟩) (c3:Ar K cd3 "with_goal"=true) (k3:Ad K (.ref f3)=true)
  (a4:Ao K mainGlobals "begin_rows"=some (some (.ref f4))) (l4:K.lookup f4=some ⟨oc4,od4,.func (Au "begin_rows" "begin_rows" (Zh Yv) (Z4 Yv) (Z1 Yv) .none kV4 dc4 pm4 an4 cd4 ct4),sl4⟩) (c4:Ar K cd4 "begin_rows"=true) (k4:Ad K (.ref f4)=true)
  (a5:Ao K mainGlobals "begin_no"=some (some (.ref f5))) (l5:K.lookup f5=some ⟨oc5,od5,.func (Au "begin_no" "begin_no" (Zh Xa) (Z4 Xa) (Z1 Xa) .none kV5 dc5 pm5 an5 cd5 ct5),sl5⟩) (c5:Ar K cd5 "begin_no"=true) (k5:Ad K (.ref f5)=true)
  (a6:Ao K mainGlobals "finish_rows"=some (some (.ref f6))) (l6:K.lookup f6=some ⟨oc6,od6,.func (Au "finish_rows" "finish_rows" (Zh Yk) (Z4 Yk) (Z1 Yk) .none kV6 dc6 pm6 an6 cd6 ct6),sl6⟩) (c6:Ar K cd6 "finish_rows"=true) (k6:Ad K (.ref f6)=true)
  (a7:Ao K mainGlobals "rows_of"=some (some (.ref f7))) (l7:K.lookup f7=some ⟨oc7,od7,.func (Au "rows_of" "rows_of" (Zh Xz) (Z4 Xz) (Z1 Xz) .none kV7 dc7 pm7 an7 cd7 ct7),sl7⟩) (c7:Ar K cd7 "rows_of"=true) (k7:Ad K (.ref f7)=true)
  (a8:Ao K mainGlobals "quotient"=some (some (.ref f8))) (l8:K.lookup f8=some ⟨oc8,od8,.func (Au "quotient" "quotient" (Zh Xi) (Z4 Xi) (Z1 Xi) .none kV8 dc8 pm8 an8 cd8 ct8),sl8⟩) (c8:Ar K cd8 "quotient"=true) (k8:Ad K (.ref f8)=true)
  (a9:Ao K mainGlobals "rest"=some (some (.ref f9))) (l9:K.lookup f9=some ⟨oc9,od9,.func (Au "rest" "rest" (Zh Rv) (Z4 Rv) (Z1 Rv) .none kV9 dc9 pm9 an9 cd9 ct9),sl9⟩) (c9:Ar K cd9 "rest"=true) (k9:Ad K (.ref f9)=true)
  (a10:Ao K mainGlobals "made"=some (some (.ref f10))) (l10:K.lookup f10=some ⟨oc10,od10,.func (Au "made" "made" (Zh Rt) (Z4 Rt) (Z1 Rt) .none kV10 dc10 pm10 an10 cd10 ct10),sl10⟩) (c10:Ar K cd10 "made"=true) (k10:Ad K (.ref f10)=true)
  (a11:Ao K mainGlobals "holds"=some (some (.ref f11))) (l11:K.lookup f11=some ⟨oc11,od11,.func (Au "holds" "holds" (Zh T5) (Z4 T5) (Z1 T5) .none kV11 dc11 pm11 an11 cd11 ct11),sl11⟩) (c11:Ar K cd11 "holds"=true) (k11:Ad K (.ref f11)=true)
  (a12:Ao K mainGlobals "worth"=some (some (.ref f12))) (l12:K.lookup f12=some ⟨oc12,od12,.func (Au "worth" "worth" (Zh Vm) (Z4 Vm) (Z1 Vm) .none kV12 dc12 pm12 an12 cd12 ct12),sl12⟩) (c12:Ar K cd12 "worth"=true) (k12:Ad K (.ref f12)=true)
  (a13:Ao K mainGlobals "deed_of_sum"=some (some (.ref f13))) (l13:K.lookup f13=some ⟨oc13,od13,.func (Au "deed_of_sum" "deed_of_sum" (Zh Yl) (Z4 Yl) (Z1 Yl) .none kV13 dc13 pm13 an13 cd13 ct13),sl13⟩) (c13:Ar K cd13 "deed_of_sum"=true) (k13:Ad K (.ref f13)=true)
  (a14:Ao K mainGlobals "deed_of_test"=some (some (.ref f14))) (l14:K.lookup f14=some ⟨oc14,od14,.func (Au "deed_of_test" "deed_of_test" (Zh Yc) (Z4 Yc) (Z1 Yc) .none kV14 dc14 pm14 an14 cd14 ct14),sl14⟩) (c14:Ar K cd14 "deed_of_test"=true) (k14:Ad K (.ref f14)=true)
  (a15:Ao K mainGlobals "behind"=some (some (.ref f15))) (l15:K.lookup f15=some ⟨oc15,od15,.func (Au "behind" "behind" (Zh Wn) (Z4 Wn) (Z1 Wn) .none kV15 dc15 pm15 an15 cd15 ct15),sl15⟩) (c15:Ar K cd15 "behind"=true) (k15:Ad K (.ref f15)=true)
  (a16:Ao K mainGlobals "deed_of"=some (some (.ref f16))) (l16:K.lookup f16=some ⟨oc16,od16,.func (Au "deed_of" "deed_of" (Zh Xw) (Z4 Xw) (Z1 Xw) .none kV16 dc16 pm16 an16 cd16 ct16),sl16⟩) (c16:Ar K cd16 "deed_of"=true) (k16:Ad K (.ref f16)=true)
  (a17:Ao K mainGlobals "run_from"=some (some (.ref f17))) (l17:K.lookup f17=some ⟨oc17,od17,.func (Au "run_from" "run_from" (Zh X8) (Z4 X8) (Z1 X8) .none kV17 dc17 pm17 an17 cd17 ct17),sl17⟩) (c17:Ar K cd17 "run_from"=true) (k17:Ad K (.ref f17)=true)
  (a18:Ao K mainGlobals "landings"=some (some (.ref f18))) (l18:K.lookup f18=some ⟨oc18,od18,.func (Au "landings" "landings" (Zh Xe) (Z4 Xe) (Z1 Xe) .none kV18 dc18 pm18 an18 cd18 ct18),sl18⟩) (c18:Ar K cd18 "landings"=true) (k18:Ad K (.ref f18)=true)
  (a19:Ao K mainGlobals "linked"=some (some (.ref f19))) (l19:K.lookup f19=some ⟨oc19,od19,.func (Au "linked" "linked" (Zh Wl) (Z4 Wl) (Z1 Wl) .none kV19 dc19 pm19 an19 cd19 ct19),sl19⟩) (c19:Ar K cd19 "linked"=true) (k19:Ad K (.ref f19)=true)
  (a20:Ao K mainGlobals "run"=some (some (.ref f20))) (l20:K.lookup f20=some ⟨oc20,od20,.func (Au "run" "run" (Zh Js) (Z4 Js) (Z1 Js) (.ref td20) kV20 dc20 pm20 an20 cd20 ct20),sl20⟩) (c20:Ar K cd20 "run"=true) (k20:Ad K (.ref f20)=true)
  (a21:Ao K mainGlobals "run_form"=some (some (.ref f21))) (l21:K.lookup f21=some ⟨oc21,od21,.func (Au "run_form" "run_form" (Zh Xg) (Z4 Xg) (Z1 Xg) (.ref td21) kV21 dc21 pm21 an21 cd21 ct21),sl21⟩) (c21:Ar K cd21 "run_form"=true) (k21:Ad K (.ref f21)=true)
  (a22:Ao K mainGlobals "_law_raw"=some (some (.ref f22))) (l22:K.lookup f22=some ⟨oc22,od22,.func (Au "_law_raw" "_law_raw" (Zh Rm) (Z4 Rm) (Z1 Rm) .none kV22 dc22 pm22 an22 cd22 ct22),sl22⟩) (c22:Ar K cd22 "_law_raw"=true) (k22:Ad K (.ref f22)=true)
  (a23:Ao K mainGlobals "_law_mix"=some (some (.ref f23))) (l23:K.lookup f23=some ⟨oc23,od23,.func (Au "_law_mix" "_law_mix" (Zh Ri) (Z4 Ri) (Z1 Ri) .none kV23 dc23 pm23 an23 cd23 ct23),sl23⟩) (c23:Ar K cd23 "_law_mix"=true) (k23:Ad K (.ref f23)=true)
  (a24:Ao K mainGlobals "_law_alike"=some (some (.ref f24))) (l24:K.lookup f24=some ⟨oc24,od24,.func (Au "_law_alike" "_law_alike" (Zh Wi) (Z4 Wi) (Z1 Wi) .none kV24 dc24 pm24 an24 cd24 ct24),sl24⟩) (c24:Ar K cd24 "_law_alike"=true) (k24:Ad K (.ref f24)=true)
  (a25:Ao K mainGlobals "_law_same_memory"=some (some (.ref f25))) (l25:K.lookup f25=some ⟨oc25,od25,.func (Au "_law_same_memory" "_law_same_memory" (Zh Yd) (Z4 Yd) (Z1 Yd) .none kV25 dc25 pm25 an25 cd25 ct25),sl25⟩) (c25:Ar K cd25 "_law_same_memory"=true) (k25:Ad K (.ref f25)=true)
  (a26:Ao K mainGlobals "_law_counting"=some (some (.ref f26))) (l26:K.lookup f26=some ⟨oc26,od26,.func (Au "_law_counting" "_law_counting" (Zh X2) (Z4 X2) (Z1 X2) .none kV26 dc26 pm26 an26 cd26 ct26),sl26⟩) (c26:Ar K cd26 "_law_counting"=true) (k26:Ad K (.ref f26)=true)
  (a27:Ao K mainGlobals "_law_spin"=some (some (.ref f27))) (l27:K.lookup f27=some ⟨oc27,od27,.func (Au "_law_spin" "_law_spin" (Zh Vy) (Z4 Vy) (Z1 Vy) .none kV27 dc27 pm27 an27 cd27 ct27),sl27⟩) (c27:Ar K cd27 "_law_spin"=true) (k27:Ad K (.ref f27)=true)
  (a28:Ao K mainGlobals "_law_last"=some (some (.ref f28))) (l28:K.lookup f28=some ⟨oc28,od28,.func (Au "_law_last" "_law_last" (Zh Vt) (Z4 Vt) (Z1 Vt) .none kV28 dc28 pm28 an28 cd28 ct28),sl28⟩) (c28:Ar K cd28 "_law_last"=true) (k28:Ad K (.ref f28)=true)
  (a29:Ao K mainGlobals "_law_within"=some (some (.ref f29))) (l29:K.lookup f29=some ⟨oc29,od29,.func (Au "_law_within" "_law_within" (Zh W2) (Z4 W2) (Z1 W2) .none kV29 dc29 pm29 an29 cd29 ct29),sl29⟩) (c29:Ar K cd29 "_law_within"=true) (k29:Ad K (.ref f29)=true)
  (a30:Ao K mainGlobals "_law_deeds"=some (some (.ref f30))) (l30:K.lookup f30=some ⟨oc30,od30,.func (Au "_law_deeds" "_law_deeds" (Zh Wj) (Z4 Wj) (Z1 Wj) .none kV30 dc30 pm30 an30 cd30 ct30),sl30⟩) (c30:Ar K cd30 "_law_deeds"=true) (k30:Ad K (.ref f30)=true)
  (a31:Ao K mainGlobals "_law_word"=some (some (.ref f31))) (l31:K.lookup f31=some ⟨oc31,od31,.func (Au "_law_word" "_law_word" (Zh Vo) (Z4 Vo) (Z1 Vo) .none kV31 dc31 pm31 an31 cd31 ct31),sl31⟩) (c31:Ar K cd31 "_law_word"=true) (k31:Ad K (.ref f31)=true)
  (a32:Ao K mainGlobals "law"=some (some (.ref f32))) (l32:K.lookup f32=some ⟨oc32,od32,.func (Au "law" "law" (Zh Fi) (Z4 Fi) (Z1 Fi) .none kV32 dc32 pm32 an32 cd32 ct32),sl32⟩) (c32:Ar K cd32 "law"=true) (k32:Ad K (.ref f32)=true)
  (z0:Ao K mainGlobals "list"=some none) (z1:Ao K mainGlobals "reversed"=some none) (z2:Ao K mainGlobals "len"=some none) (z3:Ao K mainGlobals "enumerate"=some none) (z4:Ao K mainGlobals "isinstance"=some none) (z5:Ao K mainGlobals "str"=some none) (z6:Ao K mainGlobals "dict"=some none) (z7:Ao K mainGlobals "range"=some none) (z8:Ao K mainGlobals "zip"=some none) (z9:Ao K mainGlobals "tuple"=some none) (z10:Ao K mainGlobals "int"=some none) (z11:Ao K mainGlobals "bool"=some none) (z12:Ao K mainGlobals "min"=some none)
  {c_JumpError c_ByNought fi Ti:Addr}
  {ocI kVI dcI pmI cdI ctI ocT:Value} {odI anI odT:Option Addr} {slI slT:Array (Option Value)} {nT:Nat}
  (n0:Ao K mainGlobals "JumpError"=some (some (.ref c_JumpError)))
  (n1:Ao K mainGlobals "ByNought"=some (some (.ref c_ByNought)))
  {nm0 q0:Str} {N0:Addr} {bs0 sub0:List Value} {sn0:List Str} {ab0:Bool} {col0:Option Bool} {dd0:Option Addr} {ka0 kb0 kc0 kd0 ke0:Option Value}
  (xl0:K.lookup c_ByNought=some (excClassObj nm0 q0 c_ByNought N0 bs0 (.ref c_JumpError::vs4) true sn0 sub0 ab0 col0 dd0 ka0 kb0 kc0 kd0 ke0 "ValueError.__new__"))
  (xa0:Dx K (.ref c_ByNought) "__init__"=some (some (.ref fi)))
  (xb0:PySem.W.isFn K (.ref fi)=true)
  (xc0:Ad K (.ref c_ByNought)=true)
  (xd0:Dx K (.ref c_ByNought) "row"=some none)
  (xe0:Dx K (.ref c_ByNought) "__setattr__"=some (some (.builtin "object.__setattr__")))
  (xf0:Dx K (.ref c_ByNought) "__getattribute__"=some (some (.builtin "BaseException.__getattribute__")))
  (xg0:Dx K (.ref c_ByNought) "__getattr__"=some none)
  (xh0:Kf K c_ByNought (.type "BaseException")=some true)
  (xi0:Dx K (.ref c_ByNought) "__class__"=some (some (.builtin "object.__class__")))
  (xj0:Kf K c_ByNought (.type "object")=some true)
  (xk0:Kf K c_ByNought (.ref c_JumpError)=some true)
  (xm0:PySem.W.typeIn K (.ref c_ByNought)=some (.type "type"))
  (xn0:PySem.W.isClsIn K c_ByNought=true)
  (xo0:Kf K c_ByNought (.ref c_ByNought)=some true)
  (y0_0:Hf K (.ref c_ByNought) (.ref c_JumpError)=some true)
  (y0_1:Hf K (.ref c_ByNought) (.ref c_ByNought)=some true)
  (y0:Hf K (.ref c_ByNought) (.type "ValueError")=some true)
  (w0:PySem.W.specialIn K (.builtin "object.__class__") "__get__"=some (some (.builtin "getset_descriptor.__get__")))
  (w1:PySem.W.takesIn K (.builtin "object.__class__")=some true)
  (w2:PySem.W.typeIn K (.ref c_JumpError)=some (.type "type"))
  (w3:PySem.W.isClsIn K c_JumpError=true)
  (w4:Kf K c_JumpError (.type "BaseException")=some true)
  (il:K.lookup fi=some ⟨ocI,odI,.func (Au "__init__" "JumpError.__init__" (Zh Jj) (Z4 Jj) (Z1 Jj) (.ref Ti) kVI dcI pmI anI cdI ctI),slI⟩) (ic:Ar K cdI "JumpError.__init__"=true) (it:K.lookup Ti=some ⟨ocT,odT,.seq #[.none] nT,slT⟩)
  {nd20:Nat} {tk20:Tok} {otd20:Value} {odd20:Option Addr} {sld20:Array (Option Value)} (dl20:K.lookup td20=some ⟨otd20,odd20,.seq #[.int 100 tk20] nd20,sld20⟩)
  {nd21:Nat} {tk21:Tok} {otd21:Value} {odd21:Option Addr} {sld21:Array (Option Value)} (dl21:K.lookup td21=some ⟨otd21,odd21,.seq #[.int 100 tk21] nd21,sld21⟩)
  {ta0:Addr} {tn0:Nat} {tt0_0:Tok} {to0:Option Addr} {tl0:Array (Option Value)} (u0:Ao K mainGlobals "ELSE"=some (some (.ref ta0))) (v0:K.lookup ta0=some ⟨.type "tuple",to0,.seq #[.str "else" tt0_0] tn0,tl0⟩)
  {ta1:Addr} {tn1:Nat} {tt1_0:Tok} {to1:Option Addr} {tl1:Array (Option Value)} (u1:Ao K mainGlobals "DONE"=some (some (.ref ta1))) (v1:K.lookup ta1=some ⟨.type "tuple",to1,.seq #[.str "done" tt1_0] tn1,tl1⟩)
  {ta2:Addr} {tn2:Nat} {tt2_0 tt2_1 tt2_2:Tok} {to2:Option Addr} {tl2:Array (Option Value)} (u2:Ao K mainGlobals "OPENERS"=some (some (.ref ta2))) (v2:K.lookup ta2=some ⟨.type "tuple",to2,.seq #[.str "choice" tt2_0,.str "round" tt2_1,.str "part" tt2_2] tn2,tl2⟩)
  :∃t:Adr,Tx K mg t∧t.a_law=f32∧∀(s:Shared) (v:Value),BindsTo s t.d_law ⟨[v],[]⟩ [("_law_script",v)]:=by
 have F0:=Y9 (st:=Xx) l0 c0 k0
 have F1:=Y9 (st:=Yo) l1 c1 k1
 have F2:=Y9 (st:=Xd) l2 c2 k2
 have F3:=Y9 (st:=X1) l3 c3 k3
 have F4:=Y9 (st:=Yv) l4 c4 k4
 have F5:=Y9 (st:=Xa) l5 c5 k5
 have F6:=Y9 (st:=Yk) l6 c6 k6
 have F7:=Y9 (st:=Xz) l7 c7 k7
 have F8:=Y9 (st:=Xi) l8 c8 k8
 have F9:=Y9 (st:=Rv) l9 c9 k9
 have F10:=Y9 (st:=Rt) l10 c10 k10
 have F11:=Y9 (st:=T5) l11 c11 k11
 have F12:=Y9 (st:=Vm) l12 c12 k12
 have F13:=Y9 (st:=Yl) l13 c13 k13
 have F14:=Y9 (st:=Yc) l14 c14 k14
 have F15:=Y9 (st:=Wn) l15 c15 k15
 have F16:=Y9 (st:=Xw) l16 c16 k16
 have F17:=Y9 (st:=X8) l17 c17 k17
 have F18:=Y9 (st:=Xe) l18 c18 k18
 have F19:=Y9 (st:=Wl) l19 c19 k19
 have F20:=Y9 (st:=Js) l20 c20 k20
 have F21:=Y9 (st:=Xg) l21 c21 k21
 have F22:=Y9 (st:=Rm) l22 c22 k22
 have F23:=Y9 (st:=Ri) l23 c23 k23
 have F24:=Y9 (st:=Wi) l24 c24 k24
 have F25:=Y9 (st:=Yd) l25 c25 k25
 have F26:=Y9 (st:=X2) l26 c26 k26
 have F27:=Y9 (st:=Vy) l27 c27 k27
 have F28:=Y9 (st:=Vt) l28 c28 k28
 have F29:=Y9 (st:=W2) l29 c29 k29
 have F30:=Y9 (st:=Wj) l30 c30 k30
 have F31:=Y9 (st:=Vo) l31 c31 k31
 have F32:=Y9 (st:=Fi) l32 c32 k32
 exact⟨⟨f0,_,f1,_,f2,_,f3,_,f4,_,f5,_,f6,_,f7,_,f8,_,f9,_,f10,_,f11,_,f12,_,f13,_,f14,_,f15,_,f16,_,f17,_,f18,_,f19,_,f20,_,f21,_,f22,_,f23,_,f24,_,f25,_,f26,_,f27,_,f28,_,f29,_,f30,_,f31,_,f32,_,c_JumpError,c_ByNought,fi,_⟩,⟨F0,As X G a0,k0,.all (Rh (fun _=>rfl)),
  F1,As X G a1,k1,.all (Rh (fun _=>rfl)),
  F2,As X G a2,k2,.all (Rh (fun _=>rfl)),
  F3,As X G a3,k3,.all (Wc (fun _ _=>rfl)),
  F4,As X G a4,k4,.all (Ve (fun _ _ _=>rfl)),
  F5,As X G a5,k5,.all (Ve (fun _ _ _=>rfl)),
  F6,As X G a6,k6,.all (Ve (fun _ _ _=>rfl)),
  F7,As X G a7,k7,.all (Rh (fun _=>rfl)),
  F8,As X G a8,k8,.all (Wc (fun _ _=>rfl)),
  F9,As X G a9,k9,.all (Wc (fun _ _=>rfl)),
  F10,As X G a10,k10,.all (Ve (fun _ _ _=>rfl)),
  F11,As X G a11,k11,.all (Ve (fun _ _ _=>rfl)),
  F12,As X G a12,k12,.all (Wc (fun _ _=>rfl)),
  F13,As X G a13,k13,.all (Y72 (fun _ _ _ _ _=>rfl)),
  F14,As X G a14,k14,.all (Jk (fun _ _ _ _=>rfl)),
  F15,As X G a15,k15,.all (Ve (fun _ _ _=>rfl)),
  F16,As X G a16,k16,.all (Wc (fun _ _=>rfl)),
  F17,As X G a17,k17,.all (Jk (fun _ _ _ _=>rfl)),
  F18,As X G a18,k18,.all (Wc (fun _ _=>rfl)),
  F19,As X G a19,k19,.all (Rh (fun _=>rfl)),
  F20,As X G a20,k20,Nj (n:=3) (fun s KX=>Ve fun _ _ _=>Lf KX rfl dl20 rfl rfl rfl) rfl,⟨tk20,E3 (n:=2) (fun s KX=>Wc fun _ _=>Lf KX rfl dl20 rfl rfl rfl) rfl⟩,
  F21,As X G a21,k21,Nj (n:=3) (fun s KX=>Ve fun _ _ _=>Lf KX rfl dl21 rfl rfl rfl) rfl,⟨tk21,E3 (n:=2) (fun s KX=>Wc fun _ _=>Lf KX rfl dl21 rfl rfl rfl) rfl⟩,
  F22,As X G a22,k22,.all (Wc (fun _ _=>rfl)),
  F23,As X G a23,k23,.all (Wc (fun _ _=>rfl)),
  F24,As X G a24,k24,.all (Wc (fun _ _=>rfl)),
  F25,As X G a25,k25,.all (Wc (fun _ _=>rfl)),
  F26,As X G a26,k26,.all (Jk (fun _ _ _ _=>rfl)),
  F27,As X G a27,k27,.all (Wc (fun _ _=>rfl)),
  F28,As X G a28,k28,.all (Ve (fun _ _ _=>rfl)),
  F29,As X G a29,k29,.all (Ve (fun _ _ _=>rfl)),
  F30,As X G a30,k30,.all (Jk (fun _ _ _ _=>rfl)),
  F31,As X G a31,k31,.all (Ve (fun _ _ _=>rfl)),
  F32,As X G a32,k32,.all (Rh (fun _=>rfl)),
  Du X G z0,
  Du X G z1,
  Du X G z2,
  Du X G z3,
  Du X G z4,
  Du X G z5,
  Du X G z6,
  Du X G z7,
  Du X G z8,
  Du X G z9,
  Du X G z10,
  Du X G z11,
  Du X G z12,
  As X G n0,
  As X G n1,
  Zp2 xl0 xa0 xb0 xc0,
  Zd5 xl0 xd0 xe0,
  ⟨(mro4 xl0).imp fun _ h=>⟨h.1,h.2.1⟩,xd0,xf0,xg0,xh0⟩,
  ⟨(mro4 xl0).imp fun _ h=>⟨h.1,h.2.1⟩,xf0,xg0,xh0,xi0,w0,w1,xj0⟩,
  ⟨w2,w3,w4,xk0⟩,
  ⟨xm0,xn0,xh0,xo0⟩,
  y0_0,
  y0_1,
  y0,
  fun P w mg base=>Zv4 il ic Zx0 Zx9 rfl rfl,
  E3 (n:=1) (fun s KX=>Rh fun _=>Lf KX rfl it rfl rfl rfl) rfl,
  Nj (n:=2) (fun s KX=>Wc fun _ _=>Lf KX rfl it rfl rfl rfl) rfl,
  ⟨_,As X G u0,_,_,_,v0,rfl,rfl,show 1≤sizeLine by decide,.cons ⟨_,rfl⟩ (.nil)⟩,
  ⟨_,As X G u1,_,_,_,v1,rfl,rfl,show 1≤sizeLine by decide,.cons ⟨_,rfl⟩ (.nil)⟩,
  ⟨_,As X G u2,_,_,_,v2,rfl,rfl,show 3≤sizeLine by decide,.cons ⟨_,rfl⟩ (.cons ⟨_,rfl⟩ (.cons ⟨_,rfl⟩ (.nil)))⟩⟩,rfl,fun s v=> .of_eq rfl⟩
set_option hygiene false
local macro_rules | `(tactic| walk_at "go")=>do
 let ids:=("tss_nil tss_cons ts te tes teo tit tcd tbop tt op_add_i op_add_s op_add_t op_add_l op_sub_i op_mul_i op_mul_l op_fdiv_i op_mod_i op_pow_i op_and_i op_xor_i cm_lt_i cm_gt_i cm_eq cm_ne cm_in cm_notin eq_i eq_s eq_b eq_nn eq_is eq_si tru_b tru_i tru_n tru_t ix_t ix_g ix_s sl_s sl_t sl_l is_non is_bl is_int is_str is_tup tyNon tyBl tyInt tyStr tyTup tyLst tyDct bf_len_t bf_len_s bf_is bf_min bf_dict mt_setd_r mk_setd ati0 ati1 ati2 ati3 ati4 ati5 Option.some.injEq exists_eq_left' ofS_inj String.reduceEq not_true_eq_false bf_int at2_xy onRef_r mt_append_r mt_get2_r mt_pop_r mt_extend_r mk_append mk_pop mk_get2 mk_extend tg_one tg_two it_r it_t it_g key_i key_s in_ss start0 List.map_cons List.map_nil List.length_cons List.length_nil List.cons_append List.nil_append List.append_nil List.replicate List.set_cons_zero List.set_cons_succ List.getElem?_cons_zero List.getElem?_cons_succ Nat.reduceAdd Nat.reduceSub Nat.sub_self Nat.zero_add decide_eq_true_eq ne_eq Int.reduceEq not_false_eq_true true_and Bool.not_eq_true' decide_eq_false_iff_not Bool.false_eq_true Bool.true_eq_false if_true if_false Bool.not_true Bool.not_false".splitOn " ").toArray.map fun s=>Lean.mkIdent s.toName
 let gs ←(Array.range 28).mapM fun i=>`(tactic| try simp only[$(Lean.mkIdent (Lean.Name.mkSimple s!"g{i}")):ident])
 `(tactic| ((try dsimp only[$[$ids:ident],*]);(try simp only[$[$ids:ident],*]);$[$gs:tactic];*))
local macro_rules | `(tactic| walk_at "ev")=>`(tactic| (walk_at "go";repeat (with_reducible refine Su ?_;walk_at "go")))
structure Ks(F:Nat→Prop)(M M':Z3):Prop where
 at':∀a,¬F a→a<M.length→M'[a]?=M[a]?
 len:M.length≤M'.length
abbrev Kp:Z3→Z3→Prop:=Ks fun _=>False
theorem Ks.refl{F:Nat→Prop}(M:Z3):Ks F M M:=⟨fun _ _ _=>rfl,Nat.le_refl _⟩
theorem Ks.trans{F:Nat→Prop}{M M' M2:Z3}(h:Ks F M M')(g:Ks F M' M2):Ks F M M2:=⟨fun a n l=>(g.at' a n (Nat.lt_of_lt_of_le l h.len)).trans (h.at' a n l),Nat.le_trans h.len g.len⟩
theorem Ks.app{F:Nat→Prop}{M M':Z3}(h:Ks F M M')(N:Z3):Ks F M (M'++N):=⟨fun a n l=>by rw[Di (Nat.lt_of_lt_of_le l h.len)];exact h.at' a n l,Nat.le_trans h.len (by rw[Ac];omega)⟩
theorem Ks.new{F:Nat→Prop}(M N:Z3):Ks F M (M++N):=(Ks.refl M).app N
theorem Ks.set{F:Nat→Prop}{M M':Z3}(h:Ks F M M'){a:Nat}{c:Cell}(ha:F a∨M.length≤a):Ks F M (M'.set a c):=⟨fun b n l=>by
 have:a≠b:=by
  rintro rfl
  rcases ha with z | z
  ·exact n z
  ·omega
 rw[Dh this];exact h.at' b n l,by rw[List.length_set];exact h.len⟩
theorem Ys{M:Z3}{n:Nat}{xs:List D}(h:Zo M n=some xs):n<M.length:=by
 unfold Zo at h
 rcases Nat.lt_or_ge n M.length with l | l
 ·exact l
 ·rw[Ik l] at h
  cases h
theorem Ks.L{F:Nat→Prop}{M M':Z3}{a:Nat}{xs:List D}(h:Ks F M M')(n:¬F a)(e:Zo M a=some xs):Zo M' a=some xs:=by
 unfold Zo at e ⊢
 rw[h.at' a n (Ys (M:=M) (xs:=xs) e)];exact e
theorem Ks.W{F:Nat→Prop}{M M':Z3}{a:Nat}{xs:List D}(h:Ks F M M')(n:¬F a)(e:Zf M a=some xs):Zf M' a=some xs:=by
 have l:=Ys (Z2 e)
 unfold Zf at e ⊢
 rw[h.at' a n l];exact e
theorem Ks.pW{M M':Z3}{a:Nat}{xs:List D}(h:Kp M M')(e:Zf M a=some xs):Zf M' a=some xs:=h.W (fun z=>z) e
theorem Wx{M:Z3}{n:Nat}{xs:List D}(h:n<M.length):Zf (M.set n (.lst xs)) n=some xs:=by
 unfold Zf
 rw[Dq h]
theorem qm{i j:Int}(h:0<j):qmod i j=i % j:=Zi1 h
theorem qd{i j:Int}(h:0<j):qdiv i j=i / j:=Zi8 h
theorem Yc3{xs:List D}{i:Int}{d:D}(h0:0≤i)(h:xs[i.toNat]?=some d):atI xs i=some d:=by
 have:=Vk h
 rwa[Int.toNat_of_nonneg h0] at this
theorem Yd4{xs:List D}{i:Int}(h0:0≤i)(h:i<xs.length):∃d,atI xs i=some d∧d∈xs:=by
 have hl:i.toNat<xs.length:=by omega
 exact⟨xs[i.toNat],Yc3 h0 (Ai hl),Ht hl⟩
theorem X4(c:Int){k:Nat}(h:0<k):∃r:Nat,r<k∧c % (k:Int)=(r:Int):=by
 have h1:=Int.emod_nonneg c (show(k:Int)≠0 by omega)
 have h2:=Int.emod_lt_of_pos c (show(0:Int)<k by omega)
 exact⟨(c % k).toNat,by omega,by omega⟩
theorem Kp.new(M N:Z3):Kp M (M++N):=Ks.new M N
theorem Kp.refl(M:Z3):Kp M M:=Ks.refl M
theorem Kp.L{M M':Z3}{a:Nat}{xs:List D}(h:Kp M M')(e:Zo M a=some xs):Zo M' a=some xs:=Ks.L h (fun z=>z) e
theorem Kp.W{M M':Z3}{a:Nat}{xs:List D}(h:Kp M M')(e:Zf M a=some xs):Zf M' a=some xs:=Ks.W h (fun z=>z) e
theorem Kp.D{M M':Z3}{a:Nat}{xs:List (Key×D)}(h:Kp M M')(e:Zq M a=some xs):Zq M' a=some xs:=by
 have l:a<M.length:=Np e
 unfold Zq at e ⊢
 rw[h.at' a (fun z=>z) l];exact e
theorem Zs8{M N:Z3}{c:Nat}(h:c<M.length):(M++N)[c]?=M[c]?:=Di h
theorem O0{M:Z3}{a c:Nat}{x:Cell}(h:a≠c):(M.set a x)[c]?=M[c]?:=Dh h
inductive Opd where
 | nm (x:Str) | no (i:Int)
noncomputable def Opd.d:Opd→D
 | .nm x=> .str x
 | .no i=> .int i
inductive Nd where
 | sum (x:Str) (a:Opd) (sg:Str) (b:Opd) (t:Nat) | test (a:Opd) (sg:Str) (b:Opd) (y n:Nat) | fin | spin
noncomputable def Nd.d:Nd→D
 | .sum x a sg b t=> .tup [.str "sum",.str x,a.d,.str sg,b.d,.int t]
 | .test a sg b y n=> .tup [.str "test",a.d,.str sg,b.d,.int y,.int n]
 | .fin=> .tup [.str "end"]
 | .spin=> .tup [.str "spin"]
noncomputable def natD(l:List Nat):List D:=l.map fun(x:Nat)=>D.int (x:Int)
theorem Q0(l:List Nat):(natD l).length=l.length:=by unfold natD;simp
theorem Cb{l:List Nat}{k x:Nat}(h:l[k]?=some x):(natD l)[k]?=some (.int x):=by unfold natD;rw[Ax,h];rfl
theorem Zl0(l m:List Nat):natD (l++m)=natD l++natD m:=by unfold natD;rw[Az]
inductive Ln where
 | cond (a:Opd) (s:Str) (b:Opd) | sum (x:Str) (a:Opd) (s:Str) (b:Opd) | rnd (n:Int) | prt (n:Int) | lve (n:Int) | agn (n:Int) | els | don | fin
noncomputable def Ln.d:Ln→D
 | .cond a s b=> .tup [.str "if",a.d,.str s,b.d]
 | .sum x a s b=> .tup [.str "sum",.str x,a.d,.str s,b.d]
 | .rnd n=> .tup [.str "round",.int n]
 | .prt n=> .tup [.str "part",.int n]
 | .lve n=> .tup [.str "leave",.int n]
 | .agn n=> .tup [.str "again",.int n]
 | .els=> .tup [.str "else"]
 | .don=> .tup [.str "done"]
 | .fin=> .tup [.str "end"]
noncomputable def Ln.beg:Ln→Bool
 | .cond _ _ _ | .rnd _ | .prt _=>true
 | _=>false
noncomputable def Ln.pl:Ln→Bool
 | .els | .don=>false
 | _=>true
theorem Zq1{M:Z3}{m n:Nat}{xs:List D}{B:Bool→Prop}(h1:Zo M m=some xs)(h2:Zo M n=some [])(q:B xs.isEmpty):eqD M (.ref m) (.ref n) B:= .inr (.inr (.inl ⟨m,n,xs,rfl,rfl,h1,h2,q⟩))
inductive T where
 | leaf (l:Ln) | home (r:Bool) (n:Int) (b:List T) | cho (a:Opd) (s:Str) (b:Opd) (y n:List T)
mutual
noncomputable def fl:T→List Ln
 | .leaf l=>[l]
 | .home r n b=>(if r then .rnd n else .prt n)::(fls b++[.don])
 | .cho a s b y n=> .cond a s b::(fls y++((match n with | []=>[] | t::ts=> .els::(fl t++fls ts))++[.don]))
noncomputable def fls:List T→List Ln
 | []=>[]
 | t::ts=>fl t++fls ts
end
theorem Wp(xs ys:List T):fls (xs++ys)=fls xs++fls ys:=by
 induction xs with
 | nil=>rw[Hj];unfold fls;rfl
 | cons x xs ih=>rw[Hl];show fl x++fls (xs++ys)=(fl x++fls xs)++fls ys;rw[ih,Dg]
theorem Vp:fls []=[]:=rfl
theorem Xj(t:T)(ts:List T):fls (t::ts)=fl t++fls ts:=rfl
theorem Z73(l:Ln):fl (.leaf l)=[l]:=rfl
theorem Vj(r:Bool)(n:Int)(b:List T):fl (.home r n b)=(if r then .rnd n else .prt n)::(fls b++[.don]):=rfl
theorem Z56(a:Opd)(s:Str)(b:Opd)(y:List T):fl (.cho a s b y [])= .cond a s b::(fls y++[.don]):=rfl
theorem Ze8(a:Opd)(s:Str)(b:Opd)(y:List T)(t:T)(ts:List T):fl (.cho a s b y (t::ts))= .cond a s b::(fls y++(.els::fls (t::ts)++[.don])):=rfl
mutual
def RT(C:Nat→Prop)(M:Z3):T→D→Prop
 | .leaf l,d=>d=l.d∧l.pl=true∧l.beg=false
 | .home r n b,d=>∃c ds,d= .tup [.str (if r then "round" else "part"),.int n,.ref c]∧C c∧Zf M c=some ds∧RTs C M b ds
 | .cho a s b y n,d=>∃c1 c2 d1 d2,d= .tup [.str "choice",a.d,.str s,b.d,.ref c1,.ref c2]∧C c1∧C c2∧Zf M c1=some d1∧RTs C M y d1∧Zf M c2=some d2∧RTs C M n d2
def RTs(C:Nat→Prop)(M:Z3):List T→List D→Prop
 | [],ds=>ds=[]
 | t::ts,ds=>∃d r,ds=d::r∧RT C M t d∧RTs C M ts r
end
theorem T6{M M':Z3}{a:Nat}(h:M'[a]?=M[a]?):Zf M' a=Zf M a:=by unfold Zf;rw[h]
mutual
theorem RT.keep{C C':Nat→Prop}{M M':Z3}(hC:∀c,C c→C' c)(k:∀c,C c→M'[c]?=M[c]?):∀{t:T} {d:D},RT C M t d→RT C' M' t d
 | .leaf l,d,h=>h
 | .home r n b,d,⟨c,ds,e,h1,h2,h3⟩=>⟨c,ds,e,hC c h1,by rw[T6 (k c h1)];exact h2,RTs.keep hC k h3⟩
 | .cho a s b y n,d,⟨c1,c2,d1,d2,e,h1,h2,h3,h4,h5,h6⟩=>⟨c1,c2,d1,d2,e,hC c1 h1,hC c2 h2,by rw[T6 (k c1 h1)];exact h3,RTs.keep hC k h4,by rw[T6 (k c2 h2)];exact h5,RTs.keep hC k h6⟩
theorem RTs.keep{C C':Nat→Prop}{M M':Z3}(hC:∀c,C c→C' c)(k:∀c,C c→M'[c]?=M[c]?):∀{ts:List T} {ds:List D},RTs C M ts ds→RTs C' M' ts ds
 | [],ds,h=>h
 | t::ts,ds,⟨d,r,e,h1,h2⟩=>⟨d,r,e,RT.keep hC k h1,RTs.keep hC k h2⟩
end
theorem RTs.len{C:Nat→Prop}{M:Z3}:∀{ts:List T} {ds:List D},RTs C M ts ds→ds.length=ts.length
 | [],ds,h=>by cases h;rfl
 | t::ts,ds,⟨d,r,e,h1,h2⟩=>by rw[e,An,An,RTs.len h2]
theorem RTs.app{C:Nat→Prop}{M:Z3}:∀{ts us:List T} {ds es:List D},RTs C M ts ds→RTs C M us es→RTs C M (ts++us) (ds++es)
 | [],us,ds,es,h,g=>by cases h;exact g
 | t::ts,us,ds,es,⟨d,r,e,h1,h2⟩,g=>by rw[e];exact⟨d,r++es,rfl,h1,RTs.app h2 g⟩
theorem RTs.one{C:Nat→Prop}{M:Z3}{t:T}{d:D}(h:RT C M t d):RTs C M [t] [d]:=⟨d,[],rfl,h,rfl⟩
noncomputable def Ln.g:Ln→D
 | .cond a s b=> .tup [.str "choice",a.d,.str s,b.d]
 | .els=> .gtup [.str "else"]
 | .don=> .gtup [.str "done"]
 | l=>l.d
noncomputable def hdL:T→Ln
 | .leaf l=>l
 | .home r n _=>if r then .rnd n else .prt n
 | .cho a s b _ _=> .cond a s b
noncomputable def sub':T→List T
 | .leaf _=>[]
 | .home _ _ b=>b++[.leaf .don]
 | .cho _ _ _ y []=>y++[.leaf .don]
 | .cho _ _ _ y (t::ts)=>(y++[.leaf .els])++(t::ts)++[.leaf .don]
theorem Zm9(t:T):fl t=hdL t::fls (sub' t):=by
 cases t with
 | leaf l=>rfl
 | home r n b=>rw[Vj];show _=_::fls (b++[.leaf .don]);rw[Wp];rfl
 | cho a s b y n=>
  cases n with
  | nil=>rw[Z56];show _=_::fls (y++[.leaf .don]);rw[Wp];rfl
  | cons t ts=>
   rw[Ze8]
   show _=_::fls ((y++[.leaf .els])++(t::ts)++[.leaf .don])
   rw[Wp,Wp,Wp]
   simp[Xj,Vp,Z73,hdL]
theorem Qu(ts:List T):ts.length≤(fls ts).length:=by
 induction ts with
 | nil=>exact Nat.zero_le _
 | cons t ts ih=>rw[Xj,Zm9,Ac,An,An];omega
def RG(C:Nat→Prop)(M:Z3)(t:T)(d:D):Prop:=RT C M t d∨(t= .leaf .don∧d= .gtup [.str "done"])∨(t= .leaf .els∧d= .gtup [.str "else"])
def RGs(C:Nat→Prop)(M:Z3):List T→List D→Prop
 | [],ds=>ds=[]
 | t::ts,ds=>∃d r,ds=d::r∧RG C M t d∧RGs C M ts r
theorem RG.keep{C:Nat→Prop}{M M':Z3}(k:∀c,C c→M'[c]?=M[c]?){t:T}{d:D}(h:RG C M t d):RG C M' t d:=h.imp (fun z=>z.keep (fun _ h=>h) k) fun z=>z
theorem RGs.keep{C:Nat→Prop}{M M':Z3}(k:∀c,C c→M'[c]?=M[c]?):∀{ts:List T} {ds:List D},RGs C M ts ds→RGs C M' ts ds
 | [],ds,h=>h
 | t::ts,ds,⟨d,r,e,h1,h2⟩=>⟨d,r,e,h1.keep k,RGs.keep k h2⟩
theorem RTs.rg{C:Nat→Prop}{M:Z3}:∀{ts:List T} {ds:List D},RTs C M ts ds→RGs C M ts ds
 | [],ds,h=>h
 | t::ts,ds,⟨d,r,e,h1,h2⟩=>⟨d,r,e,.inl h1,RTs.rg h2⟩
theorem RGs.len{C:Nat→Prop}{M:Z3}:∀{ts:List T} {ds:List D},RGs C M ts ds→ds.length=ts.length
 | [],ds,h=>by cases h;rfl
 | t::ts,ds,⟨d,r,e,h1,h2⟩=>by rw[e,An,An,RGs.len h2]
theorem RGs.app{C:Nat→Prop}{M:Z3}:∀{ts us:List T} {ds es:List D},RGs C M ts ds→RGs C M us es→RGs C M (ts++us) (ds++es)
 | [],us,ds,es,h,g=>by cases h;exact g
 | t::ts,us,ds,es,⟨d,r,e,h1,h2⟩,g=>by rw[e];exact⟨d,r++es,rfl,h1,RGs.app h2 g⟩
theorem Em{C:Nat→Prop}{M:Z3}:RGs C M [.leaf .don] [.gtup [.str "done"]]:=⟨_,_,rfl,.inr (.inl ⟨rfl,rfl⟩),rfl⟩
theorem Y10{C:Nat→Prop}{M:Z3}:RGs C M [.leaf .els] [.gtup [.str "else"]]:=⟨_,_,rfl,.inr (.inr ⟨rfl,rfl⟩),rfl⟩
def Zb:DSp:=fun ds M Q _=>∃C t d,ds=[d]∧RG C M t d∧Q (hdL t).g M
def Zy:DSp:=fun ds M Q _=>∃C t d,ds=[d]∧RG C M t d∧(∀c,C c→c<M.length)∧(fl t).length≤1000∧∀M' r ds',Kp M M'→RGs C M' (sub' t) ds'→Zf M' r=some ds'→M.length≤r→Q (.ref r) M'
def Z7:DSp:=fun ds M Q _=>∃C ts r ds',ds=[.ref r]∧Zf M r=some ds'∧RTs C M ts ds'∧(∀c,C c→c<M.length)∧(fls ts).length≤1000∧∀M' r',Kp M M'→Zf M' r'=some ((fls ts).map Ln.g)→M.length≤r'→Q (.ref r') M'
theorem Ks.cl{M M':Z3}{C:Nat→Prop}(k:Kp M M')(h:∀c,C c→c<M.length):∀c,C c→M'[c]?=M[c]?:=fun c hc=>k.at' c (fun z=>z) (h c hc)
section
variable{K:Ab}{Γ:List DSp}{G:List D}
noncomputable abbrev rp:List D:=[.str "round",.str "part"]
theorem Y02{M:Z3}{Q:DK}{h:Str}{d:D}{xs:List D}(hd:d= .tup (.str h::xs)∨d= .gtup (.str h::xs))(hh:inD (.str h) rp=false)(q:Q d M):tss ⟨K,Γ,G⟩ noX We {nx:=fun _ M=>Q .non M,rt:=Q} [some d] M:=by
 delta We
 rcases hd with rfl | rfl
 ·walk_at "ev"
  refine⟨Z0 (by decide),rfl,rfl,?_⟩
  try dsimp only
  rw[hh,if_neg Bool.false_ne_true]
  delta S4
  walk_at "ev"
  exact q
 ·walk_at "ev"
  refine⟨Z0 (by decide),rfl,rfl,?_⟩
  try dsimp only
  rw[hh,if_neg Bool.false_ne_true]
  delta S4
  walk_at "ev"
  exact q
theorem Zs5{M:Z3}{Q:DK}{h:Str}{n:Int}{c:Nat}(hh:inD (.str h) rp=true)(q:Q (.tup [.str h,.int n]) M):tss ⟨K,Γ,G⟩ noX We {nx:=fun _ M=>Q .non M,rt:=Q} [some (.tup [.str h,.int n,.ref c])] M:=by
 delta We
 walk_at "ev"
 refine⟨Z0 (by decide),rfl,rfl,?_⟩
 dsimp only
 rw[hh,if_pos rfl]
 try walk_at "ev"
 exact⟨by decide,q⟩
theorem Z60:∀ds M Q Z,Zb ds M Q Z→tss ⟨K,Γ,G⟩ noX b_line_of {nx:=fun _ M=>Q .non M,rt:=Q} (start0 Sa ds) M:=by
 rintro ds M Q Z ⟨C,t,d,rfl,h,q⟩
 delta b_line_of Sa
 rcases h with h | ⟨rfl,rfl⟩ | ⟨rfl,rfl⟩
 ·cases t with
  | leaf l=>
   obtain⟨rfl,h1,h2⟩:=h
   cases l with
   | cond=>cases h2
   | rnd=>cases h2
   | prt=>cases h2
   | els=>cases h1
   | don=>cases h1
   | _=>
    simp only[Ln.d]
    walk_at "ev"
    exact Y02 (.inl rfl) (by decide+kernel) q
  | home r n b=>
   obtain⟨c,ds,rfl,_⟩:=h
   cases r with
   | true=>
    simp only[if_true]
    walk_at "ev"
    exact Zs5 (by decide+kernel) q
   | false=>
    simp only[Bool.false_eq_true,if_false]
    walk_at "ev"
    exact Zs5 (by decide+kernel) q
  | cho a s b y n=>
   obtain⟨c1,c2,d1,d2,rfl,_⟩:=h
   walk_at "ev"
   exact⟨by decide,q⟩
 ·walk_at "ev"
  exact Y02 (.inr rfl) (by decide+kernel) q
 ·walk_at "ev"
  exact Y02 (.inr rfl) (by decide+kernel) q
theorem Y30{M:Z3}{Q:DK}{h:Str}{d:D}{xs:List D}(hd:d= .tup (.str h::xs)∨d= .gtup (.str h::xs))(hh:inD (.str h) rp=false)(hc:¬h="choice")(q:Q (.ref M.length) (M++[.lst []])):tss ⟨K,Γ,G⟩ noX b_told_within {nx:=fun _ M=>Q .non M,rt:=Q} (start0 Yn [d]) M:=by
 delta b_told_within Yn
 rcases hd with rfl | rfl
 ·walk_at "ev"
  refine⟨Z0 (by decide),rfl,rfl,?_⟩
  try dsimp only
  rw[hh,if_neg Bool.false_ne_true]
  delta Xm
  walk_at "ev"
  rw[if_pos hc]
  exact⟨Z0 (by decide),q⟩
 ·walk_at "ev"
  refine⟨Z0 (by decide),rfl,rfl,?_⟩
  try dsimp only
  rw[hh,if_neg Bool.false_ne_true]
  delta Xm
  walk_at "ev"
  rw[if_pos hc]
  exact⟨Z0 (by decide),q⟩
theorem Zc1(e1:G[3]?=some (.gtup [.str "done"])){M:Z3}{Q:DK}{h:Str}{n:Int}{c:Nat}{ds:List D}(hh:inD (.str h) rp=true)(hc:Zf M c=some ds)(hl:ds.length≤1000)(q:Q (.ref (M++[Cell.lst [D.gtup [.str "done"]]]).length) (M++[Cell.lst [D.gtup [.str "done"]]]++[.lst (ds++[.gtup [.str "done"]])])):tss ⟨K,Γ,G⟩ noX b_told_within {nx:=fun _ M=>Q .non M,rt:=Q} (start0 Yn [.tup [.str h,.int n,.ref c]]) M:=by
 delta b_told_within Yn
 walk_at "ev"
 refine⟨Z0 (by decide),rfl,rfl,?_⟩
 dsimp only
 rw[hh,if_pos rfl]
 simp only[e1]
 try walk_at "ev"
 exact⟨Z0 (by decide),_,_,Zp hc,Zd _ _ [],Z0 (by rw[Am];omega),q⟩
theorem Ox(e0:G[2]?=some (.gtup [.str "else"]))(e1:G[3]?=some (.gtup [.str "done"])):∀ds M Q Z,Zy ds M Q Z→tss ⟨K,Γ,G⟩ noX b_told_within {nx:=fun _ M=>Q .non M,rt:=Q} (start0 Yn ds) M:=by
 rintro ds M Q Z ⟨C,t,d,rfl,h,hC,hz,q⟩
 have q0:∀l,sub' (.leaf l)=[]:=fun _=>rfl
 have em:sub' t=[]→Q (.ref M.length) (M++[.lst []]):=fun e=>q _ _ [] (Ks.new _ _) (by rw[e];rfl) (Zd _ _ _) (Nat.le_refl _)
 rcases h with h | ⟨rfl,rfl⟩ | ⟨rfl,rfl⟩
 ·cases t with
  | leaf l=>
   obtain⟨rfl,h1,h2⟩:=h
   cases l with
   | cond=>cases h2
   | rnd=>cases h2
   | prt=>cases h2
   | els=>cases h1
   | don=>cases h1
   | _=>exact Y30 (.inl rfl) (by decide+kernel) (by decide+kernel) (em rfl)
  | home r n b=>
   obtain⟨c,ds,rfl,hc,hr,rt⟩:=h
   have hl:ds.length≤1000:=by
    have:=Qu b
    rw[Vj,An,Ac] at hz
    rw[rt.len]
    omega
   have fin:=q (M++[Cell.lst [D.gtup [.str "done"]]]++[.lst (ds++[.gtup [.str "done"]])]) _ _ ((Ks.new _ _).app _) ((rt.rg.keep (((Ks.new M _).app _).cl hC)).app Em) (Zd _ _ _) (by rw[Ac];omega)
   cases r with
   | true=>exact Zc1 e1 (by decide+kernel) hr hl fin
   | false=>exact Zc1 e1 (by decide+kernel) hr hl fin
  | cho a s b y n=>
   obtain⟨c1,c2,d1,d2,rfl,h1,h2,h3,h4,h5,h6⟩:=h
   delta b_told_within Yn
   walk_at "ev"
   refine⟨Z0 (by decide),rfl,rfl,?_⟩
   dsimp only
   rw[show inD (.str "choice") [.str "round",.str "part"]=false by decide+kernel,if_neg Bool.false_ne_true]
   delta Xm
   walk_at "ev"
   delta Vv
   walk_at "ev"
   try rw[if_neg (by simp)]
   try walk_at "ev"
   rw[show cutD [D.str "choice",a.d,D.str s,b.d,D.ref c1,D.ref c2] (some 4) none=[.ref c1,.ref c2] from rfl]
   refine⟨by decide,?_⟩
   walk_at "ev"
   have l1:=h4.len
   have l2:=h6.len
   have f1:=Qu y
   have f2:=Qu n
   have k1:Kp M (M++[.lst []]):=Ks.new _ _
   refine⟨Z0 (by decide),Zq1 (Y6 (Z2 h5)) (Yr _ _ []) ?_⟩
   cases n with
   | nil=>
    cases h6
    simp only[List.isEmpty_nil,e1]
    walk_at "ev"
    rw[Z56,An,Ac] at hz
    refine⟨Z0 (by decide),_,_,Zp (Zp h3),Zd _ _ [],Z0 (by rw[Am];omega),?_⟩
    refine q _ _ _ ((k1.app _).app _) ((h4.rg.keep (((k1.app _).app _).cl hC)).app Em) (Zd _ _ _) ?_
    simp only[Ac]
    omega
   | cons t us=>
    rw[Ze8] at hz
    simp only[An,Ac] at hz l2 f2
    have ne:d2.isEmpty=false:=by cases d2<;>simp_all
    rw[ne,if_neg Bool.false_ne_true]
    delta Vi
    walk_at "ev"
    simp only[e0,e1]
    refine⟨Z0 (by decide),_,_,Zp (Zp h3),Zd _ _ [],Z0 (by rw[Am];omega),?_⟩
    try walk_at "ev"
    refine⟨_,_,Zd _ _ [],Zp (Zp (Zp h5)),Z0 (by simp only[Ac,Am];omega),?_⟩
    refine⟨Z0 (by decide),_,_,Zp (Zd _ _ []),Zd _ _ [],Z0 (by simp only[Ac,Am];omega),?_⟩
    have kk:=(((((k1.app [Cell.lst [D.gtup [.str "else"]]]).app [Cell.lst (d1++[D.gtup [.str "else"]])]).app [Cell.lst (d1++[D.gtup [.str "else"]]++d2)]).app [Cell.lst [D.gtup [.str "done"]]]).app [Cell.lst (d1++[D.gtup [.str "else"]]++d2++[D.gtup [.str "done"]])])
    refine q _ _ _ kk ((((h4.rg.keep (kk.cl hC)).app Y10).app (h6.rg.keep (kk.cl hC))).app Em) (Zd _ _ _) ?_
    simp only[Ac]
    omega
 ·exact Y30 (.inr rfl) (by decide+kernel) (by decide+kernel) (em rfl)
 ·exact Y30 (.inr rfl) (by decide+kernel) (by decide+kernel) (em rfl)
theorem Z07(g0:Γ[0]?=some Zb)(g1:Γ[1]?=some Zy):∀ds M Q Z,Z7 ds M Q Z→tss ⟨K,Γ,G⟩ noX b_lines_of {nx:=fun _ M=>Q .non M,rt:=Q} (start0 Tb ds) M:=by
 rintro ds M Q Z ⟨C,us,r,ds',rfl,hr,rt,hC,hz,q⟩
 delta b_lines_of Tb
 generalize hw:S.while_ _ _=w
 walk_at "ev"
 refine⟨Z0 (by decide),_,Y6 (Z2 hr),?_⟩
 rw[Dg]
 subst hw
 refine U.Ci (c:=⟨K,Γ,G⟩) (X:=noX) (fun σ M'=>∃(d:Option D) (dn:List Ln) (its:List T) (es:List D),σ=[some (.ref r),some (.ref M.length),some (.ref (M.length+1)),d]∧Kp M M'∧Zf M' M.length=some (dn.map Ln.g)∧Zf M' (M.length+1)=some es.reverse∧RGs C M' its es∧dn++fls its=fls us) (fun σ M'=>1000 - ((Zf M' M.length).getD []).length)
  ?_ ?_
 ·exact⟨none,[],us,ds',by simp,Ks.new _ _,Zd _ _ _,Ra _ _ 1,rt.rg.keep ((Ks.new M _).cl hC),rfl⟩
 rintro σ M' ⟨d,dn,its,es,rfl,k,e1,e2,rg,ef⟩
 walk_at "ev"
 refine⟨Z0 (by decide),Zq1 (Y6 (Z2 e2)) (Yr _ _ []) ?_⟩
 have k1:Kp M (M'++[.lst []]):=k.app _
 have e1':=Zp (N:=[.lst []]) e1
 have e2':=Zp (N:=[.lst []]) e2
 have kc:∀c,C c→(M'++[Cell.lst []])[c]?=M'[c]?:=fun c h=>Zs8 (Nat.lt_of_lt_of_le (hC c h) k.len)
 have rg':=rg.keep kc
 cases its with
 | nil=>
  cases rg
  rw[Vp,Dn] at ef
  subst ef
  simp only[List.reverse_nil,List.isEmpty_nil]
  try walk_at "ev"
  delta Rk
  walk_at "ev"
  exact q _ _ k1 e1' (Nat.le_refl _)
 | cons t its=>
  obtain⟨d,es,rfl,h1,h2⟩:=rg'
  have en:((d::es).reverse).isEmpty=false:=by simp
  rw[en]
  delta Rq
  walk_at "ev"
  have fz:dn.length+((fl t).length+(fls its).length)≤1000:=by
   rw[←Ac,←Xj,←Ac,ef]
   exact hz
  have ft:1≤(fl t).length:=by rw[Zm9,An];omega
  have hes:es.length≤1000:=by rw[h2.len];have:=Qu its;omega
  refine⟨Y3 (Z2 e2'),_,d,e2',by simp,?_⟩
  rw[show(d::es).reverse.dropLast=es.reverse by simp]
  have lt2:=Ys (Z2 e2')
  have e3:Zf (Kj (M'++[Cell.lst []]) (M.length+1) (.lst es.reverse)) M.length=some (dn.map Ln.g):=by rw[X9 (by omega)];exact e1'
  have kc2:∀c,C c→(Kj (M'++[Cell.lst []]) (M.length+1) (.lst es.reverse))[c]?=(M'++[Cell.lst []])[c]?:=fun c h=>O0 (a:=M.length+1) (by have:=hC c h;omega)
  try walk_at "ev"
  refine⟨Y3 (Z2 e3),?_⟩
  try dsimp only
  try simp only[g0]
  refine⟨C,t,d,rfl,h1.keep kc2,?_⟩
  try walk_at "ev"
  refine⟨_,e3,Z6 (by rw[Ah];omega),?_⟩
  have M4e:∀c,C c→((Kj (M'++[Cell.lst []]) (M.length+1) (.lst es.reverse)).set M.length (.lst (dn.map Ln.g++[(hdL t).g])))[c]?=(M'++[Cell.lst []])[c]?:=fun c h=>by
   rw[O0 (a:=M.length) (by have:=hC c h;omega)]
   exact kc2 c h
  have k4:Kp M ((Kj (M'++[Cell.lst []]) (M.length+1) (.lst es.reverse)).set M.length (.lst (dn.map Ln.g++[(hdL t).g]))):=(k1.set (.inr (by omega))).set (.inr (Nat.le_refl _))
  have f1:Zf ((Kj (M'++[Cell.lst []]) (M.length+1) (.lst es.reverse)).set M.length (.lst (dn.map Ln.g++[(hdL t).g]))) M.length=some ((dn++[hdL t]).map Ln.g):=by
   rw[Wx (Ys (Z2 e3)),Az]
   rfl
  have f2:Zf ((Kj (M'++[Cell.lst []]) (M.length+1) (.lst es.reverse)).set M.length (.lst (dn.map Ln.g++[(hdL t).g]))) (M.length+1)=some es.reverse:=by
   rw[X9 (by omega),Wx lt2]
  generalize (Kj (M'++[Cell.lst []]) (M.length+1) (.lst es.reverse)).set M.length (.lst (dn.map Ln.g++[(hdL t).g]))=M4 at M4e k4 f1 f2 ⊢
  try walk_at "ev"
  refine⟨Y3 (Z2 f2),?_⟩
  try walk_at "ev"
  try dsimp only
  try simp only[g1]
  have hC4:∀c,C c→c<M4.length:=fun c h=>Nat.lt_of_lt_of_le (hC c h) k4.len
  refine⟨C,t,d,rfl,h1.keep M4e,hC4,by omega,fun M5 r5 d5 k5 g5 e5 l5=>?_⟩
  have l5':=k4.len
  have f2':=k5.pW f2
  have d5l:d5.length≤1000:=by
   rw[g5.len]
   have:=Qu (sub' t)
   rw[Zm9,An] at fz
   omega
  refine⟨_,Z2 e5,_,_,Zp f2',Zd _ _ _,Z0 (by rw[List.length_reverse,List.length_reverse];omega),⟨_,dn++[hdL t],sub' t++its,d5++es,rfl,((k4.trans k5).app _).set (.inr (by omega)),?_,?_,?_,?_⟩,?_⟩
  ·rw[X9 (by omega)]
   exact Zp (k5.pW f1)
  ·rw[Wx (Ys (Z2 (Zp f2'))),List.reverse_append]
  ·have kk:∀c,C c→(Kj (M5++[Cell.lst d5.reverse]) (M.length+1) (.lst (es.reverse++d5.reverse)))[c]?=M5[c]?:=fun c h=>by
    rw[O0 (a:=M.length+1) (by have:=hC c h;omega)]
    exact Zs8 (Nat.lt_of_lt_of_le (hC4 c h) k5.len)
   exact(g5.keep kk).app ((h2.keep M4e).keep (fun c h=>(kk c h).trans (k5.cl hC4 c h)))
  ·rw[←ef,Xj,Zm9,Wp]
   simp
  ·rw[X9 (by omega),Zp (k5.pW f1),e1]
   simp
   omega
end
noncomputable def begD(B:List Nat):List (Key×D):=B.map fun(x:Nat)=>((Hm (x:Int),D.bl true):Key×D)
theorem Zl3(B:List Nat):(begD B).length=B.length:=by unfold begD;simp
theorem Zv9(B:List Nat)(y:Nat):(valD (begD B) (Hm (y:Int))).isSome=decide (y∈B):=by
 unfold valD begD
 induction B with
 | nil=>rfl
 | cons x r ih=>
  rw[Dd,Hk]
  by_cases e:x=y
  ·subst e;simp
  ·have:decide ((Hm (x:Int):Key)=Hm (y:Int))=false:=by
    rw[decide_eq_false_iff_not];intro z;exact e (by have:=Lv z;omega)
   rw[this]
   simp only
   rw[ih]
   have e':¬y=x:=fun z=>e z.symm
   simp[e']
theorem Zg2{B:List Nat}{y:Nat}(h:¬y∈B):putD (begD B) (Hm (y:Int)) (.bl true)=begD (B++[y]):=by
 unfold putD
 rw[if_neg]
 try walk_at "ev"
 ·unfold begD;rw[Az];rfl
 ·intro z
  obtain⟨kv,h1,h2⟩:=Iv.mp z
  unfold begD at h1
  obtain⟨x,hx,rfl⟩:=List.mem_map.mp h1
  rw[decide_eq_true_eq] at h2
  have:=Lv h2
  have e:x=y:=by omega
  exact h (e ▸ hx)
noncomputable def numP(O:List Nat):List (Key×D):=O.mapIdx fun i (x:Nat)=>((Hm (x:Int),D.int (i:Nat)):Key×D)
theorem Jv(O:List Nat)(y:Nat):numP (O++[y])=numP O++[(Hm (y:Int),D.int (O.length:Nat))]:=by unfold numP;rw[List.mapIdx_append];simp
theorem B7(O:List Nat):(numP O).length=O.length:=by unfold numP;simp
theorem Sq{κ:Type}[DecidableEq κ](m:List (κ×D))(k j:κ)(v:D):valD (putD m k v) j=if k=j then some v else valD m j:=by
 unfold putD
 split
 ·rename_i h
  unfold valD
  induction m with
  | nil=>simp at h
  | cons p r ih=>
   rw[Dd,Hk,Hk]
   by_cases hp:p.1=k
   ·rw[if_pos hp]
    try walk_at "ev"
    by_cases hj:k=j
    ·subst hj;simp[hp]
    ·have:decide (p.1=j)=false:=by rw[decide_eq_false_iff_not,hp];exact hj
     simp only[this]
     rw[if_neg hj]
     try walk_at "ev"
     by_cases hr:(r.any fun kv=>decide (kv.1=k))=true
     ·have:=ih hr;rw[if_neg hj] at this;exact this
     ·have hn:r.map (fun kv=>if kv.1=k then(kv.1,v) else kv)=r:=by
       rw[List.map_congr_left (g:=id)]
       ·simp
       ·intro kv hkv
        rw[if_neg]
        try walk_at "ev"
        ·rfl
        ·intro z;exact hr (Iv.mpr ⟨kv,hkv,by simpa using z⟩)
      rw[hn]
   ·rw[if_neg hp]
    try walk_at "ev"
    have hr:(r.any fun kv=>decide (kv.1=k))=true:=by simpa[hp] using h
    by_cases hj:p.1=j
    ·have:¬k=j:=fun z=>hp (hj.trans z.symm)
     simp[hj,this]
    ·simp only[hj,decide_false]
     exact ih hr
 ·rename_i h
  unfold valD
  rw[List.find?_append]
  by_cases hj:k=j
  ·subst hj
   have:m.find? (fun kv=>decide (kv.1=k))=none:=by
    rw[List.find?_eq_none]
    intro kv hkv z
    exact h (Iv.mpr ⟨kv,hkv,z⟩)
   rw[this]
   simp
  ·rw[if_neg hj]
   try walk_at "ev"
   simp[hj]
theorem Z29(ps:List (Key×D))(p:Key×D):Rx (ps++[p])=putD (Rx ps) p.1 p.2:=by unfold Rx;rw[List.foldl_append];rfl
theorem Ei:∀(n:Nat) (O:List Nat),O.length=n→O.Nodup→∀x∈O,valD (Rx (numP O)) (Hm (x:Int))=some (.int (O.idxOf x:Nat))
 | 0,O,h,_,x,hx=>by rw[Ie.mp h] at hx;cases hx
 | n+1,O,h,nd,x,hx=>by
  have hne:O≠[]:=by rintro rfl;cases h
  obtain⟨O',y,rfl⟩:∃O' y,O=O'++[y]:=⟨O.dropLast,O.getLast hne,(List.dropLast_concat_getLast hne).symm⟩
  rw[Ac,Am] at h
  have nd':=List.nodup_append.mp nd
  rw[Jv,Z29,Sq]
  by_cases e:y=x
  ·subst e
   rw[if_pos rfl]
   try walk_at "ev"
   have hn:y∉O':=fun z=>nd'.2.2 y z y (by simp) rfl
   rw[List.idxOf_append,if_neg hn]
   simp
  ·rw[if_neg (fun z=>e (by have:=Lv z;omega))]
   try walk_at "ev"
   have hx':x∈O':=(Ho.mp hx).resolve_right (by rw[Db];exact fun z=>e z.symm)
   rw[Ei n O' (by omega) nd'.1 x hx',List.idxOf_append,if_pos hx']
theorem Na{xs:List D}{i:Nat}{d:D}(h:(Gr xs)[i]?=some d):∃x,xs[i]?=some x∧d= .tup [.int (i:Nat),x]:=by
 unfold Gr at h
 rw[Km,Dm] at h
 obtain⟨x,h1,rfl⟩:=h
 exact⟨x,h1,rfl⟩
theorem Oz(xs:List D):(Gr xs).length=xs.length:=by unfold Gr;simp
theorem Sk{α:Type}{l:List α}{i:Nat}{x:α}(h:l[i]?=some x):l.take (i+1)=l.take i++[x]:=by
 obtain⟨h1,h2⟩:=Af.mp h
 rw[←h2]
 exact List.take_succ_eq_append_getElem h1
inductive Rw where
 | sum (k:Nat) (x:Str) (a:Opd) (sg:Str) (b:Opd) | test (k:Nat) (a:Opd) (sg:Str) (b:Opd) (g:Nat) | jump (k g:Nat) | fin (k:Nat)
noncomputable def Rw.d:Rw→D
 | .sum k x a sg b=> .tup [.int k,.str "sum",.str x,a.d,.str sg,b.d]
 | .test k a sg b g=> .tup [.int k,.str "test",a.d,.str sg,b.d,.int g]
 | .jump k g=> .tup [.int k,.str "jump",.int g]
 | .fin k=> .tup [.int k,.str "end"]
def JOf(rows:List Rw)(pl:List (Key×D))(J:Nat→Option Nat):Prop:=∀p r,rows[p]?=some r→match r with
 | Rw.jump _ g=>∃q,J p=some q∧q<rows.length∧valD pl (Hm (g:Int))=some (D.int (q:Nat))
 | _=>J p=none
def LanD(kvs:List (Key×D))(m:Nat→Option Nat):Prop:=∀p:Nat,valD kvs (Hm (p:Int))=(m p).map fun(g:Nat)=>D.int (g:Int)
theorem LanD.put{kvs:List (Key×D)}{m:Nat→Option Nat}(h:LanD kvs m)(p g:Nat):LanD (putD kvs (Hm (p:Int)) (.int (g:Nat))) (fun x=>if x=p then some g else m x):=by
 intro x
 rw[Sq]
 by_cases e:x=p
 ·subst e;rw[if_pos rfl];show _=Option.map _ (if x=x then some g else m x);rw[if_pos rfl];rfl
 ·rw[if_neg (fun z=>e (by have:=Lv z;omega))];show _=Option.map _ (if x=p then some g else m x);rw[if_neg e];exact h x
  try walk_at "ev"
theorem B8(m:List (Key×D))(k:Key)(v:D):(putD m k v).length≤m.length+1:=by
 unfold putD
 split
 ·rw[Ah];omega
 ·rw[Ac,Am];exact Nat.le_refl _
def Zl:DSp:=fun ds M Q _=>∃(a b:Nat) (rows:List Rw) (pl:List (Key×D)) (J:Nat→Option Nat),ds=[.ref a,.ref b]∧Zo M a=some (rows.map Rw.d)∧Zq M b=some pl∧rows.length≤2000∧JOf rows pl J∧
 ∀kvs m M',LanD kvs m→LN.Ln J rows.length m→(∀p,p<rows.length→(m p).isSome=true)→Kp M M'→Zq M' M.length=some kvs→Q (.ref M.length) M'
theorem Z23{α:Type}{o:Option α}{x:α}(h:o=some x):o.isSome=true:=by rw[h];rfl
theorem Zg5(M N:Z3)(k:Nat):(M++N)[M.length+k]?=N[k]?:=by rw[Dk (by omega),Nat.add_sub_cancel_left]
section
variable{K:Ab}
theorem Bu{Γ G}:∀ds M Q Z,Zl ds M Q Z→tss ⟨K,Γ,G⟩ noX b_landings {nx:=fun _ M=>Q .non M,rt:=Q} (start0 Te ds) M:=by
 rintro ds M Q Z ⟨a,b,rows,pl,J,rfl,ha,hb,hn,hJ,q⟩
 delta b_landings Te
 walk_at "ev"
 refine Y7 (Y6 ha) ⟨by omega,by rw[Ah];omega,?_⟩
 try walk_at "ev"
 rw[Io,Ah]
 refine J1 (fun i σ M'=>∃kvs m N d3 d4 d5 d6 d7,σ=[some (.ref a),some (.ref b),some (.ref M.length),d3,d4,d5,d6,d7]∧M'=M++ .dct kvs::N∧LanD kvs m∧LN.Ln J rows.length m∧(∀p,p<i→(m p).isSome=true)∧kvs.length≤i * 3000)
  ⟨[],fun _=>none,[],none,none,none,none,none,rfl,rfl,fun p=>rfl,(fun p g h=>by cases h),(fun p h=>by omega),Nat.zero_le _⟩ ?_ ?_
 ·rintro i σ M' C hi ⟨kvs,m,N,d3,d4,d5,d6,d7,rfl,rfl,lan,ln,tot,hk⟩ hC
  have hrow:∀p,p<rows.length→∃r,rows[p]?=some r:=fun p hp=>⟨_,Ai hp⟩
  (delta Rs;simp only[Int.zero_add])
  walk_at "ev"
  rw[Dg,Hl]
  have el:(M++ .dct kvs::N).length=M.length+(N.length+1):=by simp
  rw[el]
  have rdP:∀kv c,Zq (M++ .dct kv::(N++[.dct c])) (M.length+(N.length+1))=some c:=fun kv c=>by rw[Z35];exact Yx N _ []
  have rdL:∀kv N',Zq (M++ .dct kv::N') M.length=some kv:=fun kv N'=>Yx _ _ _
  refine⟨fun w σ M'=>∃(P:List Nat) (p:Nat),w=rows.length - P.length∧σ=[some (.ref a),some (.ref b),some (.ref M.length),some (.int (i:Nat)),some (.ref (M.length+(N.length+1))),some (.int (p:Nat)),d6,d7]∧M'=M++ .dct kvs::(N++[.dct (begD P)])∧LN.Lk J i P p∧P.Nodup∧(∀x∈P,x<rows.length∧m x=none)∧p<rows.length,
   ⟨_,[],i,rfl,rfl,rfl,rfl,by simp,by simp,hi⟩,?_⟩
  rintro w σ M' ⟨P,p,rfl,rfl,rfl,lk,nd,hP,hp⟩
  have hPl:P.length≤rows.length:=ND.Gf rows.length P nd fun x hx=>(hP x hx).1
  have hkb:kvs.length≤6000000:=by
   have:i * 3000≤2000 * 3000:=Nat.mul_le_mul_right _ (by omega)
   omega
  obtain⟨r,hr⟩:=hrow p hp
  have stop:∀bk,((m p).isSome=true∨p∈P∨J p=none)→tss ⟨K,Γ,G⟩ noX Vz {nx:=C,rt:=Q,bk:=bk,ct:=C} [some (.ref a),some (.ref b),some (.ref M.length),some (.int (i:Nat)),some (.ref (M.length+(N.length+1))),some (.int (p:Nat)),d6,d7] (M++ .dct kvs::(N++[.dct (begD P)])):=by
   intro bk hs
   obtain⟨l1,l2,l3⟩:=ln.land lk hP hp hs
   delta Vz
   walk_at "ev"
   refine⟨Z23 (rdL _ _),kvs,_,rdL _ _,rfl,?_⟩
   try walk_at "ev"
   have eg:((valD kvs (Hm (p:Int))).getD (.int (p:Nat)))= .int ((m p).getD p:Nat):=by rw[lan p];cases m p<;>rfl
   rw[eg]
   generalize hg:(m p).getD p=g at l1 l2 l3
   refine .inr (.inl ⟨kvs,_,rdL _ _,rfl,Z6 (by omega),?_⟩)
   try walk_at "ev"
   rw[Xl]
   refine⟨begD P,rdP _ _,?_⟩
   try walk_at "ev"
   have fz:∀kv,(M++ .dct kv::(N++[.fdc (begD P)]):Z3)[M.length+(N.length+1)]?=some (.fdc (begD P)):=fun kv=>by rw[Zg5,Ir,Cf]
   have sz:∀kv c,(M++ .dct kv::(N++[c]):Z3).set (M.length+(N.length+1)) (.fdc (begD P))=M++ .dct kv::(N++[.fdc (begD P)]):=fun kv c=>by rw[Rz,List.set_cons_succ,Xl]
   have st:∀kv,(M++ .dct kv::(N++[.fdc (begD P)]):Z3).set (M.length+(N.length+1)) (.dct (begD P))=M++ .dct kv::(N++[.dct (begD P)]):=fun kv=>by rw[Rz,List.set_cons_succ,Xl]
   have eK:Nn (begD P)=natD P:=by unfold Nn begD natD;rw[List.map_map];rfl
   rw[sz,eK]
   refine Tt (fun j σ M'=>∃kv d7,σ=[some (.ref a),some (.ref b),some (.ref M.length),some (.int (i:Nat)),some (.ref (M.length+(N.length+1))),some (.int (p:Nat)),some (.int (g:Nat)),d7]∧M'=M++ .dct kv::(N++[.fdc (begD P)])∧LanD kv (LN.land m (P.take j) p g)∧kv.length≤kvs.length+1+j)
    ⟨_,d7,rfl,rfl,?_,by have:=B8 kvs (Hm (p:Int)) (.int (g:Nat));omega⟩ ?_ ?_ ?_
   ·have:=lan.put p g
    intro x
    have h2:=this x
    unfold LN.land
    rw[List.take_zero,if_neg (by simp)]
    exact h2
   ·rintro j σ M' _ ⟨kv,d7,rfl,rfl,_⟩
    exact⟨begD P,fz _,eK.symm⟩
   ·rintro j dx σ M' C2 hx ⟨kv,d7,rfl,rfl,lan2,hk2⟩ hC2
    have hj:j<P.length:=by have:=(Af.mp hx).1;rwa[Q0] at this
    have hgj:P[j]?=some P[j]:=Ai hj
    generalize P[j]=y at hgj
    rw[Cb hgj] at hx
    cases hx
    delta Ru
    walk_at "ev"
    refine .inr (.inl ⟨kv,_,rdL _ _,rfl,Z6 (by omega),?_⟩)
    try walk_at "ev"
    rw[Xl]
    refine hC2 _ _ ⟨_,_,rfl,rfl,fun x=>?_,by have:=B8 kv (Hm (y:Int)) (.int (g:Nat));omega⟩
    try walk_at "ev"
    rw[lan2.put y g x,Sk hgj]
    congr 1
    unfold LN.land
    try dsimp only
    by_cases ex:x=y
    ·subst ex;rw[if_pos rfl,if_pos (by simp)]
    ·rw[if_neg ex]
     try walk_at "ev"
     have:(x∈P.take j++[y])↔x∈P.take j:=by simp[ex]
     simp only[this]
   ·rintro σ M' ⟨kv,d7,rfl,rfl,lan2,hk2⟩
    rw[Q0] at lan2 hk2
    rw[List.take_length] at lan2
    refine⟨begD P,fz _,?_⟩
    try walk_at "ev"
    rw[st]
    refine hC _ _ ⟨kv,_,_,_,_,_,_,_,rfl,rfl,lan2,l1,fun x hx=>?_,by rw[Nat.add_mul];omega⟩
    try walk_at "ev"
    by_cases ex:x=i
    ·subst ex;exact l2
    ·exact l3 x (tot x (by omega))
  walk_at "ev"
  refine .inr (.inl ⟨kvs,_,rdL _ _,rfl,?_⟩)
  try walk_at "ev"
  rw[lan p,Option.isSome_map]
  try dsimp only
  cases hm:(m p).isSome with
  | true=>
   rw[if_neg (by decide)]
   try walk_at "ev"
   try rw[if_neg (by decide)]
   exact stop _ (.inl hm)
  | false=>
   rw[if_pos rfl]
   try walk_at "ev"
   refine .inr (.inl ⟨begD P,_,rdP _ _,rfl,?_⟩)
   try walk_at "ev"
   rw[Zv9]
   try dsimp only
   by_cases hpP:p∈P
   ·rw[decide_eq_true hpP,if_neg (by decide)]
    try rw[if_neg (by decide)]
    exact stop _ (.inr (.inl hpP))
   ·rw[decide_eq_false hpP,if_pos rfl]
    refine ix_l (k:=p) (Y6 ha) (by rw[Ax,hr];rfl) ?_
    have hJp:=hJ p r hr
    cases r with
    | jump k g=>
     obtain⟨q',j1,j2,j3⟩:=hJp
     refine⟨_,rfl,?_⟩
     walk_at "ev"
     delta Rl
     walk_at "ev"
     have hm':m p=none:=by cases e:m p with
      | none=>rfl
      | some _=>rw[e] at hm;cases hm
     have nd':(P++[p]).Nodup:=List.nodup_append.mpr ⟨nd,by simp,fun a ha c hc=>by rw[Db] at hc;subst hc;exact fun e=>hpP (e ▸ ha)⟩
     have hP':∀x∈P++[p],x<rows.length∧m x=none:=fun x hx=>by
      rcases Ho.mp hx with hx | hx
      ·exact hP x hx
      ·rw[Db] at hx;subst hx;exact⟨hp,hm'⟩
     have hl':=ND.Gf rows.length (P++[p]) nd' fun x hx=>(hP' x hx).1
     rw[Ac,Am] at hl'
     refine .inr (.inl ⟨begD P,_,rdP _ _,rfl,by rw[Zl3];exact Z6 (by omega),?_⟩)
     try walk_at "ev"
     rw[Zg2 hpP,Rz,List.set_cons_succ,Xl]
     refine ix_l (k:=p) (Y6 ha) (by rw[Ax,hr];rfl) ?_
     refine⟨_,rfl,?_⟩
     try walk_at "ev"
     refine ix_d (T4 hb) rfl j3 ?_
     try walk_at "ev"
     exact⟨_,by rw[Ac,Am];omega,P++[p],q',rfl,rfl,rfl,lk.snoc j1,nd',hP',j2⟩
    | sum k x o1 sg o2=>
     refine⟨_,rfl,?_⟩
     walk_at "ev"
     try rw[if_neg (by decide+kernel)]
     try walk_at "ev"
     exact stop _ (.inr (.inr hJp))
    | test k o1 sg o2 g=>
     refine⟨_,rfl,?_⟩
     walk_at "ev"
     try rw[if_neg (by decide+kernel)]
     try walk_at "ev"
     exact stop _ (.inr (.inr hJp))
    | fin k=>
     refine⟨_,rfl,?_⟩
     walk_at "ev"
     try rw[if_neg (by decide+kernel)]
     try walk_at "ev"
     exact stop _ (.inr (.inr hJp))
 ·rintro σ M' ⟨kvs,m,N,d3,d4,d5,d6,d7,rfl,rfl,lan,ln,tot,hk⟩
  delta Rp
  walk_at "ev"
  exact q kvs m _ lan ln tot (Kp.new _ _) (Yx _ _ _)
end
noncomputable def Rw.num:Rw→Nat
 | .sum k _ _ _ _=>k
 | .test k _ _ _ _=>k
 | .jump k _=>k
 | .fin k=>k
noncomputable def Fl(rows:List Rw)(g:Nat):Nat:=(rows.map Rw.num).idxOf g
noncomputable def jmp(rows:List Rw)(p:Nat):Option Nat:=match rows[p]? with
 | some (.jump _ g)=>some (Fl rows g)
 | _=>none
noncomputable def Rw.node(rows:List Rw)(L:Nat→Nat)(p:Nat):Rw→Nd
 | .sum _ x a sg b=> .sum x a sg b (L (p+1))
 | .test _ a sg b g=> .test a sg b (L (Fl rows g)) (L (p+1))
 | .jump _ _=> .spin
 | .fin _=> .fin
noncomputable def Rw.goal:Rw→Option Nat
 | .test _ _ _ _ g=>some g
 | .jump _ g=>some g
 | _=>none
noncomputable def Rw.goes:Rw→Bool
 | .sum _ _ _ _ _=>true
 | .test _ _ _ _ _=>true
 | _=>false
structure RwOk(rows:List Rw):Prop where
 pos:0<rows.length
 small:rows.length≤2000
 nd:(rows.map Rw.num).Nodup
 goal:∀r∈rows,∀g,r.goal=some g→g∈rows.map Rw.num
 last:∀p r,rows[p]?=some r→r.goes=true→p+1<rows.length
structure Lands(rows:List Rw)(L:Nat→Nat):Prop where
 lt:∀p,p<rows.length→L p<rows.length
 no:∀p,p<rows.length→jmp rows p=none→L p=p
 yes:∀p q,p<rows.length→jmp rows p=some q→L p=L q
 orb:∀p,p<rows.length→LN.Orb (jmp rows) p (L p)
noncomputable def X0(rows:List Rw)(L:Nat→Nat):List Nd:=rows.mapIdx fun p r=>r.node rows L p
def Y8:DSp:=fun ds M Q _=>∃(a:Nat) (rows:List Rw),ds=[.ref a]∧Zo M a=some (rows.map Rw.d)∧RwOk rows∧
 ∀L M' r,Lands rows L→Kp M M'→Zf M' r=some ((X0 rows L).map Nd.d)→M.length≤r→Q (.tup [.ref r,.int (L 0:Nat)]) M'
theorem Z99{rows:List Rw}{g:Nat}(h:g∈rows.map Rw.num):Fl rows g<rows.length:=by
 have:=List.idxOf_lt_length_of_mem h
 rwa[Ah] at this
theorem Yc6{rows:List Rw}(ok:RwOk rows){p q:Nat}(h:jmp rows p=some q):q<rows.length:=by
 unfold jmp at h
 split at h
 ·rename_i k g e
  cases h
  exact Z99 (ok.goal _ (Hb e) g rfl)
 ·cases h
theorem Y56{rows:List Rw}(ok:RwOk rows){p q:Nat}(h:LN.Orb (jmp rows) p q)(hp:p<rows.length):q<rows.length:=by
 induction h with
 | refl _=>exact hp
 | step e _ ih=>exact ih (Yc6 ok e)
theorem Zl8{rows:List Rw}(ok:RwOk rows){m:Nat→Option Nat}(h:LN.Ln (jmp rows) rows.length m)(all:∀p,p<rows.length→(m p).isSome=true):Lands rows (fun p=>(m p).getD 0):=by
 have get:∀p,p<rows.length→m p=some ((m p).getD 0):=fun p hp=>by
  obtain⟨g,e⟩:=Hx.mp (all p hp)
  rw[e];rfl
 refine⟨fun p hp=>Y56 ok (h p _ (get p hp)).2.2.2 hp,fun p hp e=>(h p _ (get p hp)).2.1 e,fun p q hp e=>?_,fun p hp=>(h p _ (get p hp)).2.2.2⟩
 try walk_at "ev"
 have:=(h p _ (get p hp)).2.2.1 q e
 show(m p).getD 0=(m q).getD 0
 rw[this];rfl
theorem Qa(rows:List Rw)(L:Nat→Nat):(X0 rows L).length=rows.length:=by unfold X0;simp
theorem Xr{rows:List Rw}{L:Nat→Nat}{i:Nat}{r:Rw}(h:rows[i]?=some r):(X0 rows L)[i]?=some (r.node rows L i):=by unfold X0;rw[Km,h];rfl
section
variable{K:Ab}
theorem Zo1{Γ G}(g4:Γ[18]?=some Zl):∀ds M Q Z,Y8 ds M Q Z→tss ⟨K,Γ,G⟩ noX b_linked {nx:=fun _ M=>Q .non M,rt:=Q} (start0 Q4 ds) M:=by
 rintro ds M Q Z ⟨a,rows,rfl,ha,ok,q⟩
 have hn:=ok.small
 delta b_linked Q4
 walk_at "ev"
 refine⟨_,ha,?_⟩
 try walk_at "ev"
 simp only[capD,Dd,Ih,Option.bind_none,Dp,Kz,Ir,Option.join_some]
 refine Q7 (fun i σ M'=>∃d1 d2,σ=[d1,d2]∧M'=M++[.lst (U.Tq (numP ((rows.map Rw.num).take i)))]) ⟨none,none,rfl,rfl⟩ ?_ ?_ ?_
 ·rintro i σ M' _ ⟨d1,d2,rfl,rfl⟩
  exact⟨_,Y6 ha,rfl⟩
 ·rintro i dx σ M' C hx ⟨d1,d2,rfl,rfl⟩ hC
  obtain⟨y,hy,rfl⟩:=Na hx
  have hi:i<rows.length:=by have:=(Af.mp hy).1;rwa[Ah] at this
  obtain⟨r,hr⟩:∃r,rows[i]?=some r:=⟨_,Ai hi⟩
  rw[Ax,hr] at hy
  cases hy
  have hnum:(rows.map Rw.num)[i]?=some r.num:=by rw[Ax,hr];rfl
  have e0:∀F:D→Prop,F (.int (r.num:Nat))→ixD (M++[.lst (U.Tq (numP ((rows.map Rw.num).take i)))]) r.d (.int 0) F:=fun F f=>by cases r<;>exact⟨_,rfl,f⟩
  walk_at "ev"
  refine e0 _ ⟨Z0 (by decide),_,Zd _ _ [],by unfold U.Tq;rw[Ah,B7,Iu,Ah];exact Z6 (by omega),?_⟩
  try walk_at "ev"
  rw[Xl]
  refine hC _ _ ⟨_,_,rfl,?_⟩
  try walk_at "ev"
  rw[Sk hnum,Jv,Iu,Ah,Nat.min_eq_left (by omega)]
  unfold U.Tq
  rw[Az]
  rfl
 ·rintro σ M' ⟨d1,d2,rfl,rfl⟩
  rw[Oz,Ah,←Ah (f:=Rw.num) (as:=rows),List.take_length]
  try walk_at "ev"
  refine .inr ⟨numP (rows.map Rw.num),Yr _ _ [],by rw[B7,Ah];exact Z6 (by omega),?_⟩
  try walk_at "ev"
  have k1:Kp M (M++[.lst (U.Tq (numP (rows.map Rw.num)))]++[.dct (Rx (numP (rows.map Rw.num)))]):=(Kp.new _ _).app _
  have hd1:Zq (M++[.lst (U.Tq (numP (rows.map Rw.num)))]++[.dct (Rx (numP (rows.map Rw.num)))]) (M++[Cell.lst (U.Tq (numP (rows.map Rw.num)))]:Z3).length=some (Rx (numP (rows.map Rw.num))):=Yx _ _ []
  generalize M++[.lst (U.Tq (numP (rows.map Rw.num)))]++[.dct (Rx (numP (rows.map Rw.num)))]=M1 at k1 hd1
  generalize (M++[Cell.lst (U.Tq (numP (rows.map Rw.num)))]:Z3).length=nn at hd1
  have ha1:=k1.L ha
  try simp only[g4]
  have jof:JOf rows (Rx (numP (rows.map Rw.num))) (jmp rows):=by
   intro p r hr
   cases r with
   | jump k g=>
    have hg:=ok.goal _ (Hb hr) g rfl
    exact⟨Fl rows g,by unfold jmp;rw[hr],Z99 hg,Ei _ _ rfl ok.nd g hg⟩
   | _=>show jmp rows p=none;unfold jmp;rw[hr]
  refine⟨a,nn,rows,_,jmp rows,rfl,ha1,hd1,hn,jof,fun kvs m M2 lan ln tot k2 hk=>?_⟩
  try walk_at "ev"
  have lands:=Zl8 ok ln tot
  have hd2:=k2.D hd1
  have ha2:=k2.L ha1
  have val:∀p:Nat,p<rows.length→valD kvs (Hm (p:Int))=some (.int ((m p).getD 0:Nat)):=fun p hp=>by
   rw[lan p]
   obtain⟨g,e⟩:=Hx.mp (tot p hp)
   rw[e];rfl
  walk_at "ev"
  refine⟨Z0 (by decide),_,Y6 ha2,?_⟩
  try walk_at "ev"
  have hk':∀N,Zq (M2++N) M1.length=some kvs:=fun N=>T4 hk
  have hp':∀N,Zq (M2++N) nn=some (Rx (numP (rows.map Rw.num))):=fun N=>T4 hd2
  generalize hL:(fun p=>(m p).getD 0)=L at lands
  have val':∀p:Nat,p<rows.length→valD kvs (Hm (p:Int))=some (.int (L p:Nat)):=fun p hp=>by rw[val p hp,←hL]
  refine Tt (fun i σ M'=>∃d4 d5,σ=[some (.ref a),some (.ref nn),some (.ref M1.length),some (.ref M2.length),d4,d5]∧M'=M2++[.lst (((X0 rows L).take i).map Nd.d)]) ⟨none,none,rfl,rfl⟩ ?_ ?_ ?_
  ·rintro i σ M' _ ⟨d4,d5,rfl,rfl⟩
   exact⟨_,Y6 ha2,rfl⟩
  ·rintro i dx σ M' C hx ⟨d4,d5,rfl,rfl⟩ hC
   obtain⟨y,hy,rfl⟩:=Na hx
   have hi:i<rows.length:=by have:=(Af.mp hy).1;rwa[Ah] at this
   obtain⟨r,hr⟩:∃r,rows[i]?=some r:=⟨_,Ai hi⟩
   rw[Ax,hr] at hy
   cases hy
   have len:(((X0 rows L).take i).map Nd.d).length<sizeLine:=by
    rw[Ah,Iu,Qa]
    exact Z6 (by omega)
   have fin:∀d4 d5,C [some (.ref a),some (.ref nn),some (.ref M1.length),some (.ref M2.length),d4,d5] (M2++[.lst (((X0 rows L).take i).map Nd.d++[(r.node rows L i).d])]):=by
    intro d4 d5
    refine hC _ _ ⟨d4,d5,rfl,?_⟩
    try walk_at "ev"
    rw[Sk (Xr hr),Az]
    rfl
   have put:∀d4 d5 v,v=(r.node rows L i).d→∃xs,Zf (M2++[.lst (((X0 rows L).take i).map Nd.d)]) M2.length=some xs∧xs.length<sizeLine∧C [some (.ref a),some (.ref nn),some (.ref M1.length),some (.ref M2.length),d4,d5] ((M2++[.lst (((X0 rows L).take i).map Nd.d)]:Z3).set M2.length (.lst (xs++[v]))):=by
    rintro d4 d5 v rfl
    refine⟨_,Zd _ _ [],len,?_⟩
    try walk_at "ev"
    rw[Xl]
    exact fin d4 d5
   have isS:(Zo (M2++[.lst (((X0 rows L).take i).map Nd.d)]) M2.length).isSome=true:=Y3 (Yr _ _ [])
   have e1:((i:Int)+1)=((i+1:Nat):Int):=by omega
   delta Pz
   try walk_at "ev"
   cases r with
   | sum k x o1 sg o2=>
    have hl:=ok.last i _ hr rfl
    simp only[Rw.d]
    try walk_at "ev"
    rw[show U.cutD [.int k,.str "sum",.str x,o1.d,.str sg,o2.d] (some 1) none=[.str "sum",.str x,o1.d,.str sg,o2.d] from rfl,e1]
    refine⟨isS,by decide,ix_d (hk' _) rfl (val' _ hl) ⟨Z0 (by decide),by simp,Z0 (by simp),put _ _ _ rfl⟩⟩
   | test k o1 sg o2 g=>
    have hl:=ok.last i _ hr rfl
    have hg:=ok.goal _ (Hb hr) g rfl
    simp only[Rw.d]
    try walk_at "ev"
    rw[show U.cutD [.int k,.str "test",o1.d,.str sg,o2.d,.int g] (some 1) (some 5)=[.str "test",o1.d,.str sg,o2.d] from rfl,e1]
    refine⟨isS,by decide,?_⟩
    refine ix_d (hp' _) rfl (Ei _ _ rfl ok.nd g hg) (ix_d (hk' _) rfl (val' _ (Z99 hg)) (ix_d (hk' _) rfl (val' _ hl) ⟨Z0 (by decide),by simp,Z0 (by simp),put _ _ _ rfl⟩))
   | fin k=>
    simp only[Rw.d]
    try walk_at "ev"
    exact⟨isS,Z0 (by decide),put _ _ _ rfl⟩
   | jump k g=>
    simp only[Rw.d]
    try walk_at "ev"
    exact⟨isS,Z0 (by decide),put _ _ _ rfl⟩
  ·rintro σ M' ⟨d4,d5,rfl,rfl⟩
   rw[Oz,Ah,←Qa rows L,List.take_length]
   delta Og
   walk_at "ev"
   refine ix_d (y:=Hm ((0:Nat):Int)) (hk' _) rfl (val' 0 ok.pos) ⟨Z0 (by decide),?_⟩
   try walk_at "ev"
   refine q L _ _ lands ((k1.trans k2).app _) (Zd _ _ []) ?_
   try walk_at "ev"
   exact Nat.le_trans k1.len k2.len
end
def Wth(kvs:List (Key×D)):Opd→Int→Prop
 | .no i,v=>i=v
 | .nm x,v=>(valD kvs (Bs x)).getD (.int 0)= .int v
def Z5(B:Addr):DSp:=fun ds M _ Z=>∃a:Int,ds=[.int a,.int 0]∧Z B .non M
def Sm(B:Addr)(sg:Str)(a b:Int)(M:Z3)(Z:DX)(Q:Int→Prop):Prop:=(sg="+"∧Q (a+b))∨((sg="/"∨sg="rest")∧b=0∧Z B .non M)
def Ym(B:Addr):DSp:=fun ds M Q Z=>∃(sg:Str) (a b:Int),ds=[.str sg,.int a,.int b]∧Sm B sg a b M Z fun v=>Q (.int v) M
def Y0:DSp:=fun ds M Q _=>∃a b:Int,ds=[.str "<",.int a,.int b]∧Q (.bl (decide (a<b))) M
def Zz:DSp:=fun ds M Q _=>∃(o:Opd) (h:Nat) (kvs:List (Key×D)) (v:Int),ds=[o.d,.ref h]∧Zq M h=some kvs∧Wth kvs o v∧Q (.int v) M
noncomputable def sumT(x:Str)(u:Int)(sg:Str)(v w:Int):D:= .tup [.str "sum",.str x,.int u,.str sg,.int v,.int w]
noncomputable def testT(u v:Int):D:= .tup [.str "test",.int u,.str "<",.int v,.bl (decide (u<v))]
def Zi(B:Addr):DSp:=fun ds M Q Z=>∃(x:Str) (a:Opd) (sg:Str) (b:Opd) (h:Nat) (kvs:List (Key×D)) (u v:Int),ds=[.str x,a.d,.str sg,b.d,.ref h]∧Zq M h=some kvs∧Wth kvs a u∧Wth kvs b v∧Sm B sg u v M Z fun w=>Q (sumT x u sg v w) M
def Zc:DSp:=fun ds M Q _=>∃(a b:Opd) (h:Nat) (kvs:List (Key×D)) (u v:Int),ds=[a.d,.str "<",b.d,.ref h]∧Zq M h=some kvs∧Wth kvs a u∧Wth kvs b v∧Q (testT u v) M
def DdOf(B:Addr)(kvs:List (Key×D))(M:Z3)(Q:DK)(Z:DX):Nd→Prop
 | .sum x a sg b _=>∃u v,Wth kvs a u∧Wth kvs b v∧Sm B sg u v M Z fun w=>Q (sumT x u sg v w) M
 | .test a sg b _ _=>sg="<"∧∃u v,Wth kvs a u∧Wth kvs b v∧Q (testT u v) M
 | .fin=>False
 | .spin=>False
def Zw(B:Addr):DSp:=fun ds M Q Z=>∃(n:Nd) (h:Nat) (kvs:List (Key×D)),ds=[n.d,.ref h]∧Zq M h=some kvs∧DdOf B kvs M Q Z n
def Bh(h:Nat)(dd:D)(M:Z3)(Q:DK):Nd→Prop
 | .sum x _ _ _ t=>∃s0 s1 s2 s3 s4 v kvs,dd= .tup [s0,s1,s2,s3,s4,v]∧Zq M h=some kvs∧kvs.length<sizeLine∧Q (.int (t:Nat)) (M.set h (.dct (putD kvs (Bs x) v)))
 | .test _ _ _ y n=>∃s0 s1 s2 s3 b,dd= .tup [s0,s1,s2,s3,.bl b]∧Q (.int ((if b=true then y else n:Nat):Int)) M
 | .fin=>False
 | .spin=>False
def Zt:DSp:=fun ds M Q _=>∃(n:Nd) (dd:D) (h:Nat),ds=[n.d,dd,.ref h]∧Bh h dd M Q n
section
variable{K:Ab}{J B:Addr}
theorem Z25{Γ G}:∀ds M Q Z,Z5 B ds M Q Z→tss ⟨K,Γ,.cls J:: .cls B::G⟩ Z b_quotient {nx:=fun _ M=>Q .non M,rt:=Q} (start0 Tj ds) M:=by
 rintro ds M Q Z ⟨a,rfl,q⟩
 delta b_quotient Tj
 walk_at "ev"
 exact q
theorem Yb9{Γ G}:∀ds M Q Z,Z5 B ds M Q Z→tss ⟨K,Γ,.cls J:: .cls B::G⟩ Z b_rest {nx:=fun _ M=>Q .non M,rt:=Q} (start0 Be ds) M:=by
 rintro ds M Q Z ⟨a,rfl,q⟩
 delta b_rest Be
 walk_at "ev"
 exact q
theorem Yb7{Γ G}(g0:Γ[8]?=some (Z5 B))(g1:Γ[9]?=some (Z5 B)):∀ds M Q Z,Ym B ds M Q Z→tss ⟨K,Γ,G⟩ Z b_made {nx:=fun _ M=>Q .non M,rt:=Q} (start0 O7 ds) M:=by
 rintro ds M Q Z ⟨sg,a,b,rfl,⟨rfl,q⟩ | ⟨rfl | rfl,rfl,q⟩⟩
 ·delta b_made O7
  walk_at "ev"
  exact q
 ·delta b_made J0 Nm O7
  walk_at "ev"
  try rw[if_neg (by decide+kernel)]
  try walk_at "ev"
  try rw[if_neg (by decide+kernel)]
  try walk_at "ev"
  exact⟨a,rfl,q⟩
 ·delta b_made J0 Nm B0 O7
  walk_at "ev"
  try rw[if_neg (by decide+kernel)]
  try walk_at "ev"
  try rw[if_neg (by decide+kernel)]
  try walk_at "ev"
  try rw[if_neg (by decide+kernel)]
  try walk_at "ev"
  exact⟨a,rfl,q⟩
theorem Y07{Γ G}:∀ds M Q Z,Y0 ds M Q Z→tss ⟨K,Γ,G⟩ noX b_holds {nx:=fun _ M=>Q .non M,rt:=Q} (start0 J7 ds) M:=by
 rintro ds M Q Z ⟨a,b,rfl,q⟩
 delta b_holds J7
 walk_at "ev"
 exact q
theorem Zv2{Γ G}:∀ds M Q Z,Zz ds M Q Z→tss ⟨K,Γ,G⟩ noX b_worth {nx:=fun _ M=>Q .non M,rt:=Q} (start0 N5 ds) M:=by
 rintro ds M Q Z ⟨o,h,kvs,v,rfl,hd,hw,q⟩
 delta b_worth N5
 cases o with
 | no i=>
  cases hw
  simp only[Opd.d]
  walk_at "ev"
  delta Gu
  walk_at "ev"
  exact q
 | nm x=>
  simp only[Opd.d]
  walk_at "ev"
  refine⟨by rw[hd];rfl,kvs,_,hd,rfl,?_⟩
  rw[show(valD kvs (Bs x)).getD (.int 0)= .int v from hw]
  exact q
theorem N3{Γ G}(g2:Γ[10]?=some (Ym B))(g4:Γ[12]?=some Zz):∀ds M Q Z,Zi B ds M Q Z→tss ⟨K,Γ,G⟩ Z b_deed_of_sum {nx:=fun _ M=>Q .non M,rt:=Q} (start0 W3 ds) M:=by
 rintro ds M Q Z ⟨x,a,sg,b,h,kvs,u,v,rfl,hd,wa,wb,q⟩
 delta b_deed_of_sum W3
 walk_at "ev"
 refine⟨a,h,kvs,u,rfl,hd,wa,?_⟩
 walk_at "ev"
 refine⟨b,h,kvs,v,rfl,hd,wb,?_⟩
 walk_at "ev"
 refine⟨sg,u,v,rfl,?_⟩
 rcases q with⟨e,q⟩ | ⟨e,e2,q⟩
 ·exact .inl ⟨e,Z0 (by decide),q⟩
 ·exact .inr ⟨e,e2,q⟩
theorem Pm{Γ G}(g3:Γ[11]?=some Y0)(g4:Γ[12]?=some Zz):∀ds M Q Z,Zc ds M Q Z→tss ⟨K,Γ,G⟩ noX b_deed_of_test {nx:=fun _ M=>Q .non M,rt:=Q} (start0 Xs ds) M:=by
 rintro ds M Q Z ⟨a,b,h,kvs,u,v,rfl,hd,wa,wb,q⟩
 delta b_deed_of_test Xs
 walk_at "ev"
 refine⟨a,h,kvs,u,rfl,hd,wa,?_⟩
 walk_at "ev"
 refine⟨b,h,kvs,v,rfl,hd,wb,?_⟩
 walk_at "ev"
 exact⟨u,v,rfl,Z0 (by decide),q⟩
theorem Zf2{Γ G}(g5:Γ[13]?=some (Zi B))(g6:Γ[14]?=some Zc):∀ds M Q Z,Zw B ds M Q Z→tss ⟨K,Γ,G⟩ Z b_deed_of {nx:=fun _ M=>Q .non M,rt:=Q} (start0 Sl ds) M:=by
 rintro ds M Q Z ⟨n,h,kvs,rfl,hd,q⟩
 delta b_deed_of Sl
 cases n with
 | sum x a sg b t=>
  obtain⟨u,v,wa,wb,q⟩:=q
  simp only[Nd.d]
  walk_at "ev"
  exact⟨x,a,sg,b,h,kvs,u,v,rfl,hd,wa,wb,q⟩
 | test a sg b y n=>
  obtain⟨rfl,u,v,wa,wb,q⟩:=q
  simp only[Nd.d]
  walk_at "ev"
  try delta Qo
  try walk_at "ev"
  exact⟨a,b,h,kvs,u,v,rfl,hd,wa,wb,q⟩
 | fin=>exact q.elim
 | spin=>exact q.elim
theorem Zh7{Γ G}:∀ds M Q Z,Zt ds M Q Z→tss ⟨K,Γ,G⟩ noX b_behind {nx:=fun _ M=>Q .non M,rt:=Q} (start0 Q3 ds) M:=by
 rintro ds M Q Z ⟨n,dd,h,rfl,q⟩
 delta b_behind Q3
 cases n with
 | sum x a sg b t=>
  obtain⟨s0,s1,s2,s3,s4,v,kvs,rfl,hd,hl,q⟩:=q
  simp only[Nd.d]
  walk_at "ev"
  refine .inr (.inl ⟨kvs,_,hd,rfl,hl,?_⟩)
  try walk_at "ev"
  exact q
 | test a sg b y n=>
  obtain⟨s0,s1,s2,s3,bb,rfl,q⟩:=q
  simp only[Nd.d]
  walk_at "ev"
  try delta O4
  try walk_at "ev"
  cases bb with
  | true=>exact q
  | false=>exact q
 | fin=>exact q.elim
 | spin=>exact q.elim
end
noncomputable def Zn(kvs:List (Key×D))(x:Str)(s:Int)(j:Nat):List (Key×D):=if j=0 then kvs else putD kvs (Bs x) (.int (s+((j+1) / 2:Nat)))
noncomputable def V9(x:Str)(s:Int)(m j:Nat):D:=if j % 2=0 then sumT x (s+(j / 2:Nat)) "+" 1 (s+(j / 2:Nat)+1) else testT (s+(j / 2:Nat)+1) (s+m)
noncomputable def Y4(x:Str)(s:Int)(m n:Nat):List D:=(Hz n).map (V9 x s m)
theorem W7(x:Str)(s:Int)(m n:Nat):(Y4 x s m n).length=n:=by unfold Y4;simp
theorem Tz(x:Str)(s:Int)(m n:Nat):Y4 x s m (n+1)=Y4 x s m n++[V9 x s m n]:=by unfold Y4;rw[List.range_succ,Az];rfl
theorem Zn4(kvs:List (Key×D))(k:Key)(v w:D):putD (putD kvs k v) k w=putD kvs k w:=by
 unfold putD
 by_cases h:(kvs.any fun kv=>decide (kv.1=k))=true
 ·rw[if_pos h,if_pos h]
  have:((kvs.map fun kv=>if kv.1=k then(kv.1,v) else kv).any fun kv=>decide (kv.1=k))=true:=by
   rw[List.any_map]
   rw[Iv] at h ⊢
   obtain⟨kv,h1,h2⟩:=h
   refine⟨kv,h1,?_⟩
   have h3:kv.1=k:=by simpa using h2
   simp[h3]
  rw[if_pos this,List.map_map]
  congr 1
  funext kv
  by_cases e:kv.1=k
  ·simp[e]
  ·simp[e]
 ·rw[if_neg h,if_neg h]
  have:((kvs++[(k,v)]).any fun kv=>decide (kv.1=k))=true:=by simp
  rw[if_pos this,Az]
  congr 1
  ·have hn:∀kv∈kvs,kv.1≠k:=by
    intro kv hk e
    apply h
    rw[Iv]
    exact⟨kv,hk,by simp[e]⟩
   conv=>rhs;rw[←List.map_id kvs]
   apply List.map_congr_left
   intro kv hk
   rw[if_neg (hn kv hk)]
   rfl
  ·simp
theorem Zh4(kvs:List (Key×D))(x:Str)(s:Int)(j:Nat)(h:j % 2=0):putD (Zn kvs x s j) (Bs x) (.int (s+(j / 2:Nat)+1))=Zn kvs x s (j+1):=by
 unfold Zn
 rw[if_neg (Nat.succ_ne_zero j)]
 have e:s+((j / 2:Nat):Int)+1=s+((j+1+1) / 2:Nat):=by omega
 rw[e]
 split
 ·rfl
 ·rw[Zn4]
theorem Zd8(kvs:List (Key×D))(x:Str)(s:Int)(j:Nat)(h:j % 2=1):Zn kvs x s (j+1)=Zn kvs x s j:=by
 unfold Zn
 rw[if_neg (Nat.succ_ne_zero j),if_neg (by omega)]
 have e:(j+1+1) / 2=(j+1) / 2:=by omega
 rw[e]
theorem Zc9(m:List (Key×D))(k:Key)(v:D):(putD m k v).length≤m.length+1:=by
 unfold putD
 split
 ·rw[Ah];omega
 ·rw[Ac,Am];exact Nat.le_refl _
theorem Zm3(kvs:List (Key×D))(x:Str)(s:Int)(j:Nat):(Zn kvs x s j).length≤kvs.length+1:=by
 unfold Zn
 split
 ·omega
 ·exact Zc9 _ _ _
def Y82(kvs:List (Key×D)):Nd→Prop
 | .sum _ a sg b _=>(sg="/"∨sg="rest")∧Wth kvs b 0∧∃u,Wth kvs a u
 | .test _ _ _ _ _=>False
 | .fin=>True
 | .spin=>True
noncomputable def endW:Nd→Str
 | .fin=>"end"
 | _=>"on"
noncomputable def Wa(E:Nd)(m most:Nat):Str:=if most<2 * m then "on" else match E with
 | .sum _ _ _ _ _=>if 2 * m<most then "fault" else "on"
 | .fin=>"end"
 | _=>"on"
structure Fam(nds:List Nd)(kvs:List (Key×D))(x:Str)(s:Int)(m:Nat)(E:Nd):Prop where
 ex:∃lim p,nds[0]?=some (.sum x (.nm x) "+" (.no 1) 1)∧nds[1]?=some (.test (.nm x) "<" lim 0 p)∧nds[p]?=some E∧∀j,j≤2 * m→Wth (Zn kvs x s j) lim (s+m)
 nm:∀j,j≤2 * m→Wth (Zn kvs x s j) (.nm x) (s+((j+1) / 2:Nat))
 en:Y82 (Zn kvs x s (2 * m)) E
 pos:0<m
 few:m≤2000
 small:kvs.length≤10
def Zr:DSp:=fun ds M Q _=>∃(a mm most:Nat) (nds:List Nd) (kvs:List (Key×D)) (x:Str) (s:Int) (m:Nat) (E:Nd),ds=[.ref a,.int ((0:Nat):Int),.ref mm,.int (most:Nat)]∧Zo M a=some (nds.map Nd.d)∧Zq M mm=some kvs∧Fam nds kvs x s m E∧
 Q (.tup [.ref (M.length+1),.str (Wa E m most),.ref M.length]) (M++[.dct (Zn kvs x s (min (2 * m) most)),.lst (Y4 x s m (min (2 * m) most))])
section
variable{K:Ab}{J B:Addr}
theorem Z14{Γ G}(hc:Catch K B B true)(g7:Γ[15]?=some Zt)(g8:Γ[16]?=some (Zw B)):∀ds M Q Z,Zr ds M Q Z→tss ⟨K,Γ,.cls J:: .cls B::G⟩ noX b_run_from {nx:=fun _ M=>Q .non M,rt:=Q} (start0 Tl ds) M:=by
 rintro ds M Q Z ⟨a,mm,most,nds,kvs,x,s,m,E,rfl,ha,hd,fam,q⟩
 obtain⟨⟨lim,p,n0,n1,np,wl⟩,wn,en,m0,m1,kl⟩:=fam
 delta b_run_from Tl
 walk_at "ev"
 refine .inl ⟨kvs,hd,?_⟩
 walk_at "ev"
 refine⟨Z0 (by decide),?_⟩
 walk_at "ev"
 rw[show(M++[Cell.dct kvs]:Z3).length=M.length+1 by simp,Dg,Hl,Hj]
 have rN:∀c d,Zo (M++[c,d]) a=some (nds.map Nd.d):=fun c d=>Y6 ha
 have rH:∀kv d,Zq (M++[.dct kv,d]) M.length=some kv:=fun kv d=>Yx _ _ _
 have rDs:∀c xs,Zf (M++[c,.lst xs]) (M.length+1)=some xs:=fun c xs=>by rw[Ra];rfl
 have sDs:∀c e xs,(M++[c,e]:Z3).set (M.length+1) (.lst xs)=M++[c,.lst xs]:=fun c e xs=>by rw[Rz];rfl
 have sH:∀c e d,(M++[c,e]:Z3).set M.length d=M++[d,e]:=fun c e d=>Xl _ _ _ _
 have get:∀{i:Nat} {n:Nd},nds[i]?=some n→(nds.map Nd.d)[i]?=some n.d:=fun h=>by rw[Ax,h];rfl
 have hi:∀{n:Nd},n.d= .tup (match n.d with | .tup l=>l | _=>[]):=fun{n}=>by cases n<;>rfl
 refine⟨fun w σ M'=>∃(j pl:Nat) (d7:Option D),w=2 * m - j∧σ=[some (.ref a),some (.int ((0:Nat):Int)),some (.ref mm),some (.int (most:Nat)),some (.ref M.length),some (.ref (M.length+1)),some (.int (pl:Nat)),d7,none]∧M'=M++[.dct (Zn kvs x s j),.lst (Y4 x s m j)]∧j≤2 * m∧j≤most∧pl=(if j=2 * m then p else j % 2),
  ⟨_,0,0,none,rfl,rfl,rfl,Nat.zero_le _,Nat.zero_le _,by rw[if_neg (by omega)]⟩,?_⟩
 rintro w σ M' ⟨j,pl,d7,rfl,rfl,rfl,hj,hjm,hpl⟩
 have out:∀n:Nd,nds[pl]?=some n→(endW n=Wa E m most)→j=min (2 * m) most→tss ⟨K,Γ,.cls J:: .cls B::G⟩ noX T3 {nx:=fun _ M=>Q .non M,rt:=Q} [some (.ref a),some (.int ((0:Nat):Int)),some (.ref mm),some (.int (most:Nat)),some (.ref M.length),some (.ref (M.length+1)),some (.int (pl:Nat)),d7,none] (M++[.dct (Zn kvs x s j),.lst (Y4 x s m j)]):=by
  intro n hn hw hjj
  have q':=q
  rw[←hjj,←hw] at q'
  delta T3
  walk_at "ev"
  refine ix_l (rN _ _) (get hn) ?_
  cases n with
  | fin=>
   simp only[Nd.d]
   walk_at "ev"
   exact⟨Z0 (by decide),q'⟩
  | spin=>
   simp only[Nd.d]
   walk_at "ev"
   try rw[if_neg (by decide+kernel)]
   try walk_at "ev"
   exact⟨Z0 (by decide),q'⟩
  | sum y o1 sg o2 t=>
   simp only[Nd.d]
   walk_at "ev"
   try rw[if_neg (by decide+kernel)]
   try walk_at "ev"
   exact⟨Z0 (by decide),q'⟩
  | test o1 sg o2 t1 t2=>
   simp only[Nd.d]
   walk_at "ev"
   try rw[if_neg (by decide+kernel)]
   try walk_at "ev"
   exact⟨Z0 (by decide),q'⟩
 have tests:∀(n:Nd) (T E0:Z3→Prop),nds[pl]?=some n→(match n with | .sum _ _ _ _ _=>if j<most then T (M++[.dct (Zn kvs x s j),.lst (Y4 x s m j)]) else E0 (M++[.dct (Zn kvs x s j),.lst (Y4 x s m j)]) | .test _ _ _ _ _=>if j<most then T (M++[.dct (Zn kvs x s j),.lst (Y4 x s m j)]) else E0 (M++[.dct (Zn kvs x s j),.lst (Y4 x s m j)]) | _=>E0 (M++[.dct (Zn kvs x s j),.lst (Y4 x s m j)]))→
   ixD (M++[.dct (Zn kvs x s j),.lst (Y4 x s m j)]) (.ref a) (.int (pl:Nat)) fun d=>ixD (M++[.dct (Zn kvs x s j),.lst (Y4 x s m j)]) d (.int 0) fun d=>2≤sizeLine∧inQ (M++[.dct (Zn kvs x s j),.lst (Y4 x s m j)]) d (.tup [.str "sum",.str "test"]) fun r=>
    if r=true then bfD K .len [.ref (M.length+1)] (M++[.dct (Zn kvs x s j),.lst (Y4 x s m j)]) fun z M1=>cmD M1 .lt z (.int (most:Nat)) fun r=>if r=true then T M1 else E0 M1
    else if r=true then T (M++[.dct (Zn kvs x s j),.lst (Y4 x s m j)]) else E0 (M++[.dct (Zn kvs x s j),.lst (Y4 x s m j)]):=by
  intro n T E0 hn hF
  have yes:∀(r:Bool),r=true→(if j<most then T (M++[.dct (Zn kvs x s j),.lst (Y4 x s m j)]) else E0 (M++[.dct (Zn kvs x s j),.lst (Y4 x s m j)]))→(if r=true then bfD K .len [.ref (M.length+1)] (M++[.dct (Zn kvs x s j),.lst (Y4 x s m j)]) fun z M1=>cmD M1 .lt z (.int (most:Nat)) fun r=>if r=true then T M1 else E0 M1
    else if r=true then T (M++[.dct (Zn kvs x s j),.lst (Y4 x s m j)]) else E0 (M++[.dct (Zn kvs x s j),.lst (Y4 x s m j)])):=by
   rintro r rfl h
   rw[if_pos rfl]
   refine Y7 (Z2 (rDs _ _)) ?_
   rw[W7]
   show if decide ((j:Int)< (most:Int))=true then _ else _
   by_cases hl:j<most
   ·rw[if_pos hl] at h
    rw[if_pos (by simpa using hl)]
    exact h
   ·rw[if_neg hl] at h
    rw[if_neg (by simpa using hl)]
    exact h
  refine ix_l (rN _ _) (get hn) ?_
  cases n with
  | fin=>exact⟨_,rfl,Z0 (by decide),rfl,rfl,hF⟩
  | spin=>exact⟨_,rfl,Z0 (by decide),rfl,rfl,hF⟩
  | sum y o1 sg o2 t=>exact⟨_,rfl,Z0 (by decide),rfl,rfl,yes _ rfl hF⟩
  | test o1 sg o2 t1 t2=>exact⟨_,rfl,Z0 (by decide),rfl,rfl,yes _ rfl hF⟩
 by_cases e2:j=2 * m
 ·-- behind the last test
  subst e2
  rw[if_pos rfl] at hpl
  subst hpl
  walk_at "ev"
  refine tests E _ _ np ?_
  have hmin:2 * m=min (2 * m) most:=(Nat.min_eq_left hjm).symm
  have hw0:∀z:Str,z=endW E→(∀y o1 sg o2 t,E= .sum y o1 sg o2 t→¬2 * m<most)→z=Wa E m most:=by
   intro z hz hs
   unfold Wa
   rw[if_neg (by omega),hz]
   cases E with
   | sum y o1 sg o2 t=>simp only[endW];rw[if_neg (hs _ _ _ _ _ rfl)]
   | _=>rfl
  cases E with
  | fin=>
   exact out _ np (hw0 _ rfl (fun _ _ _ _ _ h=>by cases h)) hmin
  | spin=>
   exact out _ np (hw0 _ rfl (fun _ _ _ _ _ h=>by cases h)) hmin
  | test o1 sg o2 t1 t2=>exact en.elim
  | sum y o1 sg o2 t=>
   obtain⟨hsg,w0,u,wu⟩:=en
   dsimp only
   by_cases hlt:2 * m<most
   ·rw[if_pos hlt]
    delta Wo
    walk_at "ev"
    refine ix_l (rN _ _) (get np) ?_
    try walk_at "ev"
    refine⟨.sum y o1 sg o2 t,M.length,_,rfl,rH _ _,u,0,wu,w0,.inr ⟨hsg,rfl,hc,?_⟩⟩
    try walk_at "ev"
    refine⟨Z0 (by decide),?_⟩
    have q':=q
    rw[←hmin] at q'
    have hww:Wa (.sum y o1 sg o2 t) m most="fault":=by
     unfold Wa
     rw[if_neg (by omega)]
     show(if 2 * m<most then("fault":Str) else "on")="fault"
     rw[if_pos hlt]
    rw[hww] at q'
    exact q'
   ·rw[if_neg hlt]
    exact out _ np (hw0 _ rfl fun _ _ _ _ _ _=>hlt) hmin
 ·have hjl:j<2 * m:=by omega
  rw[if_neg e2] at hpl
  have hon:¬j<most→j=min (2 * m) most∧Wa E m most="on":=by
   intro h
   refine⟨by omega,?_⟩
   unfold Wa
   rw[if_pos (by omega)]
  rcases Nat.mod_two_eq_zero_or_one j with ev | od
  ·rw[ev] at hpl
   subst hpl
   walk_at "ev"
   refine tests _ _ _ n0 ?_
   dsimp only
   by_cases hlt:j<most
   ·rw[if_pos hlt]
    delta Wo
    walk_at "ev"
    refine ix_l (rN _ _) (get n0) ?_
    try walk_at "ev"
    refine⟨_,M.length,_,rfl,rH _ _,s+((j+1) / 2:Nat),1,wn j hj,rfl,.inl ⟨rfl,?_⟩⟩
    have eh:(j+1) / 2=j / 2:=by omega
    try walk_at "ev"
    delta Vq
    walk_at "ev"
    refine⟨Y3 (Z2 (rDs _ _)),_,rDs _ _,by rw[W7];exact Z6 (by omega),?_⟩
    rw[sDs]
    try walk_at "ev"
    refine ix_l (rN _ _) (get n0) ?_
    try walk_at "ev"
    refine⟨_,_,M.length,rfl,_,_,_,_,_,_,_,rfl,rH _ _,?_,?_⟩
    ·have:=Zm3 kvs x s j
     exact Z6 (by omega)
    rw[sH]
    try walk_at "ev"
    refine⟨2 * m - (j+1),by omega,j+1,1,_,rfl,rfl,?_,by omega,by omega,by rw[if_neg (by omega)];omega⟩
    rw[eh,Zh4 _ _ _ _ ev,Tz]
    have:V9 x s m j=sumT x (s+(j / 2:Nat)) "+" 1 (s+(j / 2:Nat)+1):=by unfold V9;rw[if_pos ev]
    rw[this]
   ·rw[if_neg hlt]
    obtain⟨h1,h2⟩:=hon hlt
    exact out _ n0 h2.symm h1
  ·rw[od] at hpl
   subst hpl
   walk_at "ev"
   refine tests _ _ _ n1 ?_
   dsimp only
   by_cases hlt:j<most
   ·rw[if_pos hlt]
    delta Wo
    walk_at "ev"
    refine ix_l (rN _ _) (get n1) ?_
    try walk_at "ev"
    refine⟨_,M.length,_,rfl,rH _ _,rfl,s+((j+1) / 2:Nat),s+m,wn j hj,wl j hj,?_⟩
    have eh:s+(((j+1) / 2:Nat):Int)=s+(j / 2:Nat)+1:=by omega
    try walk_at "ev"
    delta Vq
    walk_at "ev"
    refine⟨Y3 (Z2 (rDs _ _)),_,rDs _ _,by rw[W7];exact Z6 (by omega),?_⟩
    rw[sDs]
    try walk_at "ev"
    refine ix_l (rN _ _) (get n1) ?_
    try walk_at "ev"
    refine⟨_,_,M.length,rfl,_,_,_,_,_,rfl,?_⟩
    try walk_at "ev"
    refine⟨2 * m - (j+1),by omega,j+1,_,_,rfl,rfl,?_,by omega,by omega,?_⟩
    ·rw[eh,Zd8 _ _ _ _ od,Tz]
     have:V9 x s m j=testT (s+(j / 2:Nat)+1) (s+m):=by unfold V9;rw[if_neg (by omega)]
     rw[this]
    ·by_cases h2:j+1=2 * m
     ·rw[if_pos h2,if_neg]
      omega
     ·rw[if_neg h2,if_pos]
      ·omega
      ·omega
   ·rw[if_neg hlt]
    obtain⟨h1,h2⟩:=hon hlt
    exact out _ n1 h2.symm h1
end
section
variable{K:Ab}
noncomputable def fN:D→Bool
 | .bl _ | .int _ | .str _=>true
 | _=>false
def AL(M:Z3):Nat→D→D→Prop
 | 0,x,y=>x=y∧fN x=true
 | n+1,x,y=>(x=y∧fN x=true)∨(∃xs ys,x= .tup xs∧y= .tup ys∧xs.length=ys.length∧∀(i:Nat) a b,xs[i]?=some a→ys[i]?=some b→AL M n a b)∨
   ∃m k xs ys,x= .ref m∧y= .ref k∧Zf M m=some xs∧Zf M k=some ys∧xs.length=ys.length∧∀(i:Nat) a b,xs[i]?=some a→ys[i]?=some b→AL M n a b
def Yh(n:Nat):DSp:=fun ds M Q _=>∃x y,ds=[x,y]∧AL M n x y∧Q (.bl true) M
theorem AL.flat{M:Z3}{n:Nat}{x:D}(h:fN x=true):AL M n x x:=by
 cases n with
 | zero=>exact⟨rfl,h⟩
 | succ n=>exact .inl ⟨rfl,h⟩
theorem O6{Γ G}{M:Z3}{Q:DK}{x:D}(h:fN x=true)(q:Q (.bl true) M):tss ⟨K,Γ,G⟩ noX b_Lalike {nx:=fun _ M=>Q .non M,rt:=Q} (start0 Wg [x,x]) M:=by
 delta b_Lalike Wg
 cases x with
 | bl b=>
  walk_at "ev"
  simpa using q
 | int i=>
  walk_at "ev"
  delta Wu
  walk_at "ev"
  simpa using q
 | str z=>
  walk_at "ev"
  delta Wu
  walk_at "ev"
  delta T7
  walk_at "ev"
  simpa using q
 | _=>exact absurd h Bool.false_ne_true
theorem Y46{xs ys:List D}{i:Nat}{d:D}(h:(zipT xs ys)[i]?=some d):∃a b,xs[i]?=some a∧ys[i]?=some b∧d= .tup [a,b]:=by
 unfold zipT at h
 rw[Ax,Dm] at h
 obtain⟨p,e,rfl⟩:=h
 rw[List.getElem?_zip_eq_some] at e
 exact⟨_,_,e.1,e.2,rfl⟩
theorem G4{Γ G}{n:Nat}(g24:Γ[24]?=some (Yh n)){M:Z3}{Q:DK}{x y:D}{xs ys:List D}{own:Own}(hl:xs.length=ys.length)(h:∀(i:Nat) a b,xs[i]?=some a→ys[i]?=some b→AL M n a b)
  (lx:∀F:DK,F (.int xs.length) M→bfD K .len [x] M F) (ly:∀F:DK,F (.int ys.length) M→bfD K .len [y] M F) (hz:∀F:Own→List D→Prop,F own (zipT xs ys)→zip2 M x y F) (st:Pl own (zipT xs ys) M) (q:Q (.bl true) M):
  tss ⟨K,Γ,G⟩ noX R8 {nx:=fun _ M=>Q .non M,rt:=Q} [some x,some y,none,none] M:=by
 delta R8
 walk_at "ev"
 refine lx _ (ly _ ?_)
 walk_at "ev"
 try rw[if_neg (by rw[hl];simp)]
 delta O1
 walk_at "ev"
 try rw[at2_xy]
 refine hz _ ?_
 refine Tt (fun i σ M'=>∃d2 d3,σ=[some x,some y,d2,d3]∧M'=M) ⟨none,none,rfl,rfl⟩ ?_ ?_ ?_
 ·rintro i σ M' _ ⟨d2,d3,rfl,rfl⟩
  exact st
 ·rintro i d σ M' C hd ⟨d2,d3,rfl,rfl⟩ hC
  obtain⟨a,b,ea,eb,rfl⟩:=Y46 hd
  try rw[tg_two]
  delta Om
  walk_at "ev"
  try simp only[g24]
  refine⟨_,_,rfl,h i a b ea eb,?_⟩
  try walk_at "ev"
  exact hC _ _ ⟨_,_,rfl,rfl⟩
 ·rintro σ M' ⟨d2,d3,rfl,rfl⟩
  delta Os
  walk_at "ev"
  exact q
theorem Ze1{Γ G}:∀ds M Q Z,Yh 0 ds M Q Z→tss ⟨K,Γ,G⟩ noX b_Lalike {nx:=fun _ M=>Q .non M,rt:=Q} (start0 Wg ds) M:=by
 rintro ds M Q Z ⟨x,y,rfl,⟨rfl,h⟩,q⟩
 exact O6 h q
theorem Gi{Γ G}{n:Nat}(g24:Γ[24]?=some (Yh n)):∀ds M Q Z,Yh (n+1) ds M Q Z→tss ⟨K,Γ,G⟩ noX b_Lalike {nx:=fun _ M=>Q .non M,rt:=Q} (start0 Wg ds) M:=by
 rintro ds M Q Z ⟨x,y,rfl,h | ⟨xs,ys,rfl,rfl,hl,h⟩ | ⟨m,k,xs,ys,rfl,rfl,h1,h2,hl,h⟩,q⟩
 ·obtain⟨rfl,h⟩:=h
  exact O6 h q
 ·delta b_Lalike Wg
  walk_at "ev"
  delta Wu
  walk_at "ev"
  delta T7
  walk_at "ev"
  delta Rb
  walk_at "ev"
  delta Sx
  walk_at "ev"
  exact G4 (own:= .no) g24 hl h (fun F f=>f) (fun F f=>f) (fun F f=>f) trivial q
 ·have i1:∀{t:Ty} {B:Bool→Prop},isD K M (.ref m) (.ty (Xp t)) B=B (tyLst t):=fun{t B}=>Zr8 h1
  have i2:∀{t:Ty} {B:Bool→Prop},isD K M (.ref k) (.ty (Xp t)) B=B (tyLst t):=fun{t B}=>Zr8 h2
  delta b_Lalike Wg
  walk_at "ev"
  simp only[i2]
  walk_at "ev"
  delta Wu
  walk_at "ev"
  simp only[i2]
  walk_at "ev"
  delta T7
  walk_at "ev"
  simp only[i2]
  walk_at "ev"
  delta Rb
  walk_at "ev"
  simp only[i1,i2]
  walk_at "ev"
  delta Sx
  walk_at "ev"
  simp only[i1,i2]
  walk_at "ev"
  exact G4 (own:= .two m k) g24 hl h (fun F f=>Y7 (Z2 h1) f) (fun F f=>Y7 (Z2 h2) f) (fun F f=>⟨xs,ys,Z2 h1,Z2 h2,f⟩) ⟨xs,ys,Z2 h1,Z2 h2,rfl⟩ q
end
def X5:DSp:=fun ds M Q _=>∃(a mm most:Nat) (rows:List Rw) (kvs:List (Key×D)) (x:Str) (s:Int) (m:Nat) (wd:Str),ds=[.ref a,.ref mm,.int (most:Nat)]∧Zo M a=some (rows.map Rw.d)∧RwOk rows∧Zq M mm=some kvs∧(∀L,Lands rows L→L 0=0∧∃E,Fam (X0 rows L) kvs x s m E∧Wa E m most=wd)∧
 ∀M' r h,Kp M M'→Zf M' r=some (Y4 x s m (min (2 * m) most))→Zq M' h=some (Zn kvs x s (min (2 * m) most))→M.length≤r→M.length≤h→Q (.tup [.ref r,.str wd,.ref h]) M'
def Wh:DSp:=fun ds M Q _=>∃(a b:Nat) (kvs:List (Key×D)),ds=[.ref a,.ref b]∧Zq M a=some kvs∧Zq M b=some kvs∧a≠b∧kvs.length≤100∧(∀k v,(k,v)∈kvs→valD kvs k=some v∧∃i:Int,v= .int i)∧Q (.bl true) M
noncomputable def memK(x:Str)(s:Int)(m:Nat):List (Key×D):=if s=0 then [(Bs "limit",.int (s+m))] else [(Bs "limit",.int (s+m)),(Bs x,.int s)]
section
variable{K:Ab}
theorem Yd5{Γ G}(g17:Γ[17]?=some Zr)(g19:Γ[19]?=some Y8):∀ds M Q Z,X5 ds M Q Z→tss ⟨K,Γ,G⟩ noX b_run {nx:=fun _ M=>Q .non M,rt:=Q} (start0 Zk0 ds) M:=by
 rintro ds M Q Z ⟨a,mm,most,rows,kvs,x,s,m,wd,rfl,ha,ok,hd,fam,q⟩
 delta b_run Zk0
 walk_at "ev"
 refine⟨a,rows,rfl,ha,ok,fun L M1 r ln k1 hw hr=>?_⟩
 obtain⟨l0,E,fm,ew⟩:=fam L ln
 walk_at "ev"
 rw[l0]
 refine⟨r,mm,most,_,kvs,x,s,m,E,rfl,Z2 hw,k1.D hd,fm,?_⟩
 rw[ew]
 refine q _ _ _ (Ks.app k1 _) (by rw[Ra];rfl) (Yx _ _ _) ?_ ?_
 ·have:=k1.len;omega
 ·exact k1.len
theorem Y14{Γ G}(g24:Γ[24]?=some (Yh 2)):∀ds M Q Z,Wh ds M Q Z→tss ⟨K,Γ,G⟩ noX b_Lsame_memory {nx:=fun _ M=>Q .non M,rt:=Q} (start0 Xu ds) M:=by
 rintro ds M Q Z ⟨a,b,kvs,rfl,ha,hb,hab,hl,hv,q⟩
 have i1:∀{t:Ty} {B:Bool→Prop},isD K M (.ref a) (.ty (Xp t)) B=B (tyDct t):=fun{t B}=>Y67 ha
 delta b_Lsame_memory Xu
 walk_at "ev"
 simp only[i1]
 walk_at "ev"
 refine .inr ⟨kvs,ha,.inr ⟨kvs,hb,?_⟩⟩
 walk_at "ev"
 try rw[if_neg (by simp)]
 try walk_at "ev"
 delta Vg
 walk_at "ev"
 refine⟨kvs,hb,?_⟩
 have hbM:=Sc hb
 have hbl:b<M.length:=Np hb
 have fz:(M.set b (.fdc kvs))[b]?=some (.fdc kvs):=by rw[Dq hbl]
 have ra:Zq (M.set b (.fdc kvs)) a=some kvs:=by rw[Ju (Ch hab)];exact ha
 have back:(M.set b (.fdc kvs)).set b (.dct kvs)=M:=by
  rw[List.set_set]
  apply List.ext_getElem?
  intro i
  by_cases e:b=i
  ·subst e;rw[Dq hbl,hbM]
  ·rw[Dh e]
 refine Tt (fun i σ M'=>∃d2,σ=[some (.ref a),some (.ref b),d2]∧M'=M.set b (.fdc kvs)) ⟨none,rfl,rfl⟩ ?_ ?_ ?_
 ·rintro i σ M' _ ⟨d2,rfl,rfl⟩
  exact⟨kvs,fz,rfl⟩
 ·rintro i dx σ M' C hx ⟨d2,rfl,rfl⟩ hC
  unfold Nn at hx
  rw[Ax,Dm] at hx
  obtain⟨⟨k,v⟩,hk,rfl⟩:=hx
  obtain⟨e1,j,rfl⟩:=hv k v (Hb hk)
  have kd:keyD (kD k)=some k:=by cases k<;>rfl
  delta Vd
  walk_at "ev"
  have hin:∀F:Bool→Prop,F true→inQ (M.set b (.fdc kvs)) (kD k) (.ref a) F:=by
   intro F hF
   have:inQ (M.set b (.fdc kvs)) (kD k) (.ref a) F=((∃xs,Zo (M.set b (.fdc kvs)) a=some xs∧Yt (kD k)=true∧xs.all Yt=true∧F (inD (kD k) xs))∨(∃kvs' k',Zq (M.set b (.fdc kvs)) a=some kvs'∧keyD (kD k)=some k'∧F (valD kvs' k').isSome)∨(∃(ys:List D) (xs:List (List D)),kD k= .tup ys∧Zo (M.set b (.fdc kvs)) a=some (xs.map .tup)∧ys.all Yt=true∧(xs.all fun zs=>zs.all Yt)=true∧F (xs.any fun zs=>eqFs zs ys))):=by cases k<;>rfl
   rw[this]
   exact .inr (.inl ⟨kvs,k,ra,kd,by rw[e1];exact hF⟩)
  refine hin _ ?_
  try walk_at "ev"
  refine ix_d ra kd e1 (ix_f fz kd e1 ?_)
  try walk_at "ev"
  refine⟨_,_,rfl,AL.flat rfl,?_⟩
  try walk_at "ev"
  exact hC _ _ ⟨_,rfl,rfl⟩
 ·rintro σ M' ⟨d2,rfl,rfl⟩
  refine⟨kvs,fz,?_⟩
  rw[back]
  delta Vf
  walk_at "ev"
  exact q
end
theorem Y32(x:Str)(s:Int)(m:Nat)(hx:x≠"limit"):valD (memK x s m) (Bs "limit")=some (.int (s+m)):=by
 unfold memK valD
 split<;>rfl
theorem Y59(x:Str)(s:Int)(m:Nat)(hx:x≠"limit"):(valD (memK x s m) (Bs x)).getD (.int 0)= .int s:=by
 have h1:¬((Bs "limit":Key)=Bs x):=fun e=>hx (Lg e).symm
 unfold memK valD
 split
 ·rename_i h
  rw[Ii (by simpa using h1),h]
  rfl
 ·rw[Ii (by simpa using h1),Lh (by simp)]
  rfl
theorem Y73(x y:Str)(s:Int)(m:Nat)(h1:y≠"limit")(h2:y≠x):valD (memK x s m) (Bs y)=none:=by
 have h1:¬((Bs "limit":Key)=Bs y):=fun e=>h1 (Lg e).symm
 have h2:¬((Bs x:Key)=Bs y):=fun e=>h2 (Lg e).symm
 unfold memK valD
 split
 ·rw[Ii (by simpa using h1)];rfl
 ·rw[Ii (by simpa using h1),Ii (by simpa using h2)];rfl
theorem Cg(x y:Str)(s:Int)(m j:Nat)(h:y≠x):valD (Zn (memK x s m) x s j) (Bs y)=valD (memK x s m) (Bs y):=by
 unfold Zn
 split
 ·rfl
 ·rw[Sq,if_neg (fun e=>h (Lg e).symm)]
theorem Z82(x:Str)(s:Int)(m j:Nat)(hx:x≠"limit"):Wth (Zn (memK x s m) x s j) (.nm x) (s+((j+1) / 2:Nat)):=by
 show(valD (Zn (memK x s m) x s j) (Bs x)).getD (.int 0)=_
 unfold Zn
 split
 ·rename_i h
  subst h
  rw[Y59 x s m hx]
  simp
 ·rw[Sq,if_pos rfl]
  rfl
def Y89(lim:Opd)(s:Int)(m:Nat):Prop:=lim= .no (s+m)∨lim= .nm "limit"
def Vx:DSp:=fun ds M Q _=>∃(x:Str) (s:Int) (m most:Nat),ds=[.str x,.int s,.int (m:Nat),.int (most:Nat)]∧m≤2000∧∀M' r,Kp M M'→Zf M' r=some (Y4 x s m (min (2 * m) most))→M.length≤r→Q (.ref r) M'
noncomputable def Wz(way:Int)(m most:Nat):Str:=if 3<way∨most<2 * m then "on" else if way<2 then "end" else if 2 * m<most then "fault" else "on"
def Rf:DSp:=fun ds M Q _=>∃(way:Int) (m most:Nat),ds=[.int way,.int (m:Nat),.int (most:Nat)]∧m≤2000∧∀M',Kp M M'→Q (.str (Wz way m most)) M'
section
variable{K:Ab}
theorem Zk1{Γ G}:∀ds M Q Z,Vx ds M Q Z→tss ⟨K,Γ,G⟩ noX b_Ldeeds {nx:=fun _ M=>Q .non M,rt:=Q} (start0 Q6 ds) M:=by
 rintro ds M Q Z ⟨x,s,m,most,rfl,hm,q⟩
 delta b_Ldeeds Q6
 walk_at "ev"
 have emin:(if (most:Int)<2 * (m:Int) then(most:Int) else 2 * (m:Int))=((min (2 * m) most:Nat):Int):=by split<;>omega
 refine⟨Z0 (by decide),?_⟩
 walk_at "ev"
 rw[emin]
 refine⟨mulL (by decide) (by decide),by omega,by omega,?_⟩
 rw[Io]
 have hN:min (2 * m) most≤4000:=by omega
 generalize min (2 * m) most=N at q hN
 refine J1 (fun i σ M'=>∃d5 d6,σ=[some (.str x),some (.int s),some (.int (m:Nat)),some (.int (most:Nat)),some (.ref M.length),d5,d6]∧M'=M++[.lst (Y4 x s m i)]) ⟨none,none,rfl,rfl⟩ ?_ ?_
 ·rintro i σ M' C hi ⟨d5,d6,rfl,rfl⟩ hC
  have put:∀v,v=V9 x s m i→∀d5 d6,∃xs,Zf (M++[.lst (Y4 x s m i)]) M.length=some xs∧xs.length<sizeLine∧C [some (.str x),some (.int s),some (.int (m:Nat)),some (.int (most:Nat)),some (.ref M.length),d5,d6] ((M++[.lst (Y4 x s m i)]:Z3).set M.length (.lst (xs++[v]))):=by
   rintro v rfl d5 d6
   refine⟨_,Zd _ _ [],by rw[W7];exact Z6 (by omega),?_⟩
   rw[Xl]
   exact hC _ _ ⟨_,_,rfl,by rw[Tz]⟩
  have isS:(Zo (M++[.lst (Y4 x s m i)]) M.length).isSome=true:=Y3 (Yr _ _ [])
  (delta Ol;simp only[Int.zero_add])
  walk_at "ev"
  rw[qd (by decide)]
  refine⟨Yi (by decide) (by decide),?_⟩
  walk_at "ev"
  rw[qm (by decide)]
  have eh:((i:Int) / 2)=((i / 2:Nat):Int):=by omega
  rw[eh]
  by_cases ev:i % 2=0
  ·rw[if_pos (by omega)]
   try walk_at "ev"
   refine⟨isS,Z0 (by decide),put _ ?_ _ _⟩
   unfold V9 sumT
   rw[if_pos ev,show s+((i / 2:Nat):Int)+1 - 1=s+((i / 2:Nat):Int) by omega]
  ·rw[if_neg (by omega)]
   try walk_at "ev"
   refine⟨isS,Z0 (by decide),put _ ?_ _ _⟩
   unfold V9 testT
   rw[if_neg ev]
 ·rintro σ M' ⟨d5,d6,rfl,rfl⟩
  delta Ou
  walk_at "ev"
  exact q _ _ (Kp.new _ _) (Zd _ _ []) (Nat.le_refl _)
theorem Zz6{Γ G}:∀ds M Q Z,Rf ds M Q Z→tss ⟨K,Γ,G⟩ noX b_Lword {nx:=fun _ M=>Q .non M,rt:=Q} (start0 Nl ds) M:=by
 rintro ds M Q Z ⟨way,m,most,rfl,hm,q⟩
 have q0:=q M (Kp.refl M)
 have tl:tss ⟨K,Γ,G⟩ noX Pb {nx:=fun _ M=>Q .non M,rt:=Q} [some (.int way),some (.int (m:Nat)),some (.int (most:Nat))] M∨3<way∨most<2 * m:=by
  by_cases h:3<way∨most<2 * m
  ·exact .inr h
  refine .inl ?_
  delta Pb
  walk_at "ev"
  by_cases w0:way<2
  ·rw[if_pos w0]
   try walk_at "ev"
   unfold Wz at q0
   rw[if_neg h,if_pos w0] at q0
   exact q0
  rw[if_neg w0]
  try walk_at "ev"
  delta G2
  walk_at "ev"
  refine⟨Z0 (by decide),mulL (by decide) (by decide),?_⟩
  have q1:=q (M++[.lst [.str "on",.str "fault"]]) (Kp.new _ _)
  unfold Wz at q1
  rw[if_neg h,if_neg w0] at q1
  by_cases hl:2 * m<most
  ·rw[if_pos hl] at q1
   rw[if_pos (show 2 * (m:Int)< (most:Int) by omega)]
   exact ix_l (k:=1) (Yr _ _ []) rfl q1
  ·rw[if_neg hl] at q1
   rw[if_neg (show ¬2 * (m:Int)< (most:Int) by omega)]
   exact ix_l (k:=0) (Yr _ _ []) rfl q1
 delta b_Lword Nl
 walk_at "ev"
 by_cases h:3<way
 ·rw[if_neg (fun z=>z h),if_pos h]
  unfold Wz at q0
  rw[if_pos (.inl h)] at q0
  exact q0
 ·rw[if_pos h]
  refine⟨mulL (by decide) (by decide),?_⟩
  by_cases h2:most<2 * m
  ·rw[if_pos (by omega)]
   unfold Wz at q0
   rw[if_pos (.inr h2)] at q0
   exact q0
  ·rw[if_neg (by omega)]
   exact Su (tl.resolve_right (by omega))
end
theorem Zd4(x:Str)(s:Int)(m j:Nat)(hx:x≠"limit"):(Zn (memK x s m) x s j).length≤100∧∀k v,(k,v)∈Zn (memK x s m) x s j→valD (Zn (memK x s m) x s j) k=some v∧∃i:Int,v= .int i:=by
 have hx1:¬((Bs "limit":Key)=Bs x):=fun e=>hx (Lg e).symm
 have one:∀u:Int,∀k v,(k,v)∈([(Bs "limit",.int u)]:List (Key×D))→valD ([(Bs "limit",.int u)]:List (Key×D)) k=some v∧∃i:Int,v= .int i:=by
  intro u k v h
  rw[Db] at h
  cases h
  exact⟨by unfold valD;rw[Lh (by simp)];rfl,_,rfl⟩
 have two:∀u w:Int,∀k v,(k,v)∈([(Bs "limit",.int u),(Bs x,.int w)]:List (Key×D))→valD ([(Bs "limit",.int u),(Bs x,.int w)]:List (Key×D)) k=some v∧∃i:Int,v= .int i:=by
  intro u w k v h
  rcases Aw.mp h with h | h
  ·cases h
   exact⟨by unfold valD;rw[Lh (by simp)];rfl,_,rfl⟩
  ·rw[Db] at h
   cases h
   exact⟨by unfold valD;rw[Ii (by simpa using hx1),Lh (by simp)];rfl,_,rfl⟩
 have p1:∀u w:Int,putD ([(Bs "limit",.int u)]:List (Key×D)) (Bs x) (.int w)=([(Bs "limit",.int u),(Bs x,.int w)]:List (Key×D)):=by
  intro u w
  unfold putD
  rw[if_neg (by simp[hx1])]
  rfl
 have p2:∀u w z:Int,putD ([(Bs "limit",.int u),(Bs x,.int z)]:List (Key×D)) (Bs x) (.int w)=([(Bs "limit",.int u),(Bs x,.int w)]:List (Key×D)):=by
  intro u w z
  unfold putD
  rw[if_pos (by simp)]
  simp[hx1]
 unfold Zn memK
 split
 ·split
  ·exact⟨by simp,one _⟩
  ·exact⟨by simp,two _ _⟩
 ·split
  ·rw[p1];exact⟨by simp,two _ _⟩
  ·rw[p2];exact⟨by simp,two _ _⟩
theorem Z77(M:Z3)(x:Str)(s:Int)(m j:Nat):AL M 1 (V9 x s m j) (V9 x s m j):=by
 have key:∀l:List D,l.length≤100→(∀d∈l,fN d=true)→AL M 1 (.tup l) (.tup l):=by
  intro l hl h
  refine .inr (.inl ⟨l,l,rfl,rfl,rfl,fun i a b ea eb=>?_⟩)
  rw[ea] at eb
  cases eb
  exact⟨rfl,h a (Hb ea)⟩
 unfold V9 sumT testT
 split
 ·exact key _ (by simp) (by simp[fN])
 ·exact key _ (by simp) (by simp[fN])
inductive Lk where
 | yes | no | beh | agn | lve
 deriving DecidableEq
noncomputable def Lk.s:Lk→Str
 | .yes=>"yes" | .no=>"no" | .beh=>"behind" | .agn=>"again" | .lve=>"leave"
theorem Lk.inj{a b:Lk}(h:a.s=b.s):a=b:=by
 revert h
 cases a<;>cases b<;>first | (intro _;rfl) | (intro h;exact absurd h (by decide+kernel))
noncomputable abbrev Lb:=Lk×Int
noncomputable def lbk(l:Lb):List Key:=[Bs l.1.s,Hm l.2]
noncomputable def lbd(l:Lb):D:= .tup [.str l.1.s,.int l.2]
theorem Zt2{a b:Lb}(h:lbk a=lbk b):a=b:=by
 unfold lbk at h
 rw[List.cons.injEq,List.cons.injEq] at h
 exact Prod.ext (Lk.inj (Lg h.1)) (Lv h.2.1)
inductive Pr where
 | sum (x:Str) (a:Opd) (s:Str) (b:Opd) | test (a:Opd) (s:Str) (b:Opd) (l:Lb) | jump (l:Lb) | fin
noncomputable def Pr.d:Pr→D
 | .sum x a s b=> .tup [.str "sum",.str x,a.d,.str s,b.d]
 | .test a s b l=> .tup [.str "test",a.d,.str s,b.d,lbd l]
 | .jump l=> .tup [.str "jump",lbd l]
 | .fin=> .tup [.str "end"]
inductive Oe where
 | cho (n:Nat) | home (r:Bool) (n:Int)
noncomputable def Oe.d:Oe→D
 | .cho n=> .tup [.str "choice",.int n]
 | .home r n=> .tup [.str (if r then "round" else "part"),.int n]
structure CS where
 t:List Pr
 f:Lb→Option Nat
 o:List Oe
noncomputable def up(f:Lb→Option Nat)(l:Lb)(v:Nat):Lb→Option Nat:=fun m=>if m=l then some v else f m
noncomputable def up0(f:Lb→Option Nat)(l:Lb)(v:Nat):Lb→Option Nat:=if (f l).isSome=true then f else up f l v
noncomputable def cst(c:CS):Ln→Option CS
 | .cond a s b=>some ⟨c.t++[.test a s b (.yes,c.t.length)]++[.jump (.no,c.t.length)],up c.f (.yes,c.t.length) (c.t.length+2),.cho c.t.length::c.o⟩
 | .rnd n=>some ⟨c.t,up c.f (.agn,n) c.t.length,.home true n::c.o⟩
 | .prt n=>some ⟨c.t,up c.f (.agn,n) c.t.length,.home false n::c.o⟩
 | .els=>match c.o with
  | .cho n::r=>some ⟨c.t++[.jump (.beh,n)],up c.f (.no,n) (c.t.length+1),.cho n::r⟩
  | _=>none
 | .don=>match c.o with
  | .cho n::r=>some ⟨c.t,up (up0 c.f (.no,n) c.t.length) (.beh,n) c.t.length,r⟩
  | .home true n::r=>some ⟨c.t++[.jump (.agn,n)],up c.f (.lve,n) (c.t.length+1),r⟩
  | .home false n::r=>some ⟨c.t,up c.f (.lve,n) c.t.length,r⟩
  | []=>none
 | .lve n=>some ⟨c.t++[.jump (.lve,n)],c.f,c.o⟩
 | .agn n=>some ⟨c.t++[.jump (.agn,n)],c.f,c.o⟩
 | .sum x a s b=>some ⟨c.t++[.sum x a s b],c.f,c.o⟩
 | .fin=>some ⟨c.t++[.fin],c.f,c.o⟩
noncomputable def crun:CS→List Ln→Option CS
 | c,[]=>some c
 | c,l::ls=>(cst c l).bind fun c'=>crun c' ls
theorem Q5(ls ms:List Ln)(c:CS):crun c (ls++ms)=(crun c ls).bind fun c'=>crun c' ms:=by
 induction ls generalizing c with
 | nil=>rfl
 | cons l ls ih=>
  show(cst c l).bind _=((cst c l).bind _).bind _
  cases cst c l with
  | none=>rfl
  | some t=>exact ih t
def PM(kvs:List (List Key×D))(f:Lb→Option Nat):Prop:=∀l:Lb,valD kvs (lbk l)=(f l).map fun(n:Nat)=>D.int (n:Int)
theorem PM.put{kvs:List (List Key×D)}{f:Lb→Option Nat}(h:PM kvs f)(l:Lb)(v:Nat):PM (putD kvs (lbk l) (.int (v:Nat))) (up f l v):=by
 intro m
 rw[Sq]
 unfold up
 by_cases e:m=l
 ·subst e;rw[if_pos rfl,if_pos rfl];rfl
 ·rw[if_neg (fun z=>e (Zt2 z).symm),if_neg e];exact h m
theorem Zn5(m:List (List Key×D))(k:List Key)(v:D):(putD m k v).length≤m.length+1:=by
 unfold putD
 split
 ·rw[Ah];omega
 ·rw[Ac,Am];exact Nat.le_refl _
structure St(tl pl:Nat)(t:List Pr)(f:Lb→Option Nat)(n:Nat)(M:Z3):Prop where
 w:Zf M tl=some (t.map Pr.d)
 p:∃kvs,Xq M pl=some kvs∧PM kvs f∧kvs.length≤n
 l:t.length≤n
 b:n≤5000
abbrev F2(tl pl:Nat):Nat→Prop:=fun a=>a=tl∨a=pl
theorem B1{M:Z3}{n:Nat}{xs:List (List Key×D)}(h:Xq M n=some xs):n<M.length:=by
 unfold Xq at h
 rcases Nat.lt_or_ge n M.length with l | l
 ·exact l
 ·rw[Ik l] at h
  cases h
theorem Nu{M M':Z3}{a:Nat}(h:M'[a]?=M[a]?):Xq M' a=Xq M a:=by unfold Xq;rw[h]
section
variable{tl pl n:Nat}{t:List Pr}{f:Lb→Option Nat}{M:Z3}
theorem St.ne(h:St tl pl t f n M):tl≠pl:=by
 rintro rfl
 obtain⟨kvs,h1,_⟩:=h.p
 have h2:=h.w
 unfold Xq at h1
 unfold Zf at h2
 cases e:M[tl]? with
 | none=>rw[e] at h1;cases h1
 | some c=>
  rw[e] at h1 h2
  cases c with
  | lst _=>cases h1
  | _=>cases h2
theorem St.add(h:St tl pl t f n M)(p:Pr)(hb:n+1≤5000):St tl pl (t++[p]) f (n+1) (M.set tl (.lst (t.map Pr.d++[p.d])))∧Ks (F2 tl pl) M (M.set tl (.lst (t.map Pr.d++[p.d]))):=by
 obtain⟨kvs,h1,h2,h3⟩:=h.p
 refine⟨⟨?_,⟨kvs,?_,h2,by omega⟩,by rw[Ac,Am];have:=h.l;omega,hb⟩,(Ks.refl M).set (.inl (.inl rfl))⟩
 ·rw[Wx (Ys (Z2 h.w)),Az];rfl
 ·rw[Nu (O0 h.ne)];exact h1
theorem St.put(h:St tl pl t f n M){kvs:List (List Key×D)}(h1:Xq M pl=some kvs)(h2:PM kvs f)(h3:kvs.length≤n)(l:Lb)(v:Nat)(hb:n+1≤5000):St tl pl t (up f l v) (n+1) (M.set pl (.dcp (putD kvs (lbk l) (.int (v:Nat)))))∧Ks (F2 tl pl) M (M.set pl (.dcp (putD kvs (lbk l) (.int (v:Nat))))):=by
 refine⟨⟨?_,⟨_,?_,h2.put l v,by have:=Zn5 kvs (lbk l) (.int (v:Nat));omega⟩,by have:=h.l;omega,hb⟩,(Ks.refl M).set (.inl (.inr rfl))⟩
 ·rw[T6 (O0 (Ch h.ne))];exact h.w
 ·unfold Xq;rw[Dq (B1 h1)]
theorem St.up(h:St tl pl t f n M){m:Nat}(hm:n≤m)(hb:m≤5000):St tl pl t f m M:=by
 obtain⟨kvs,h1,h2,h3⟩:=h.p
 exact⟨h.w,⟨kvs,h1,h2,by omega⟩,by have:=h.l;omega,hb⟩
end
def Zm:DSp:=fun ds M Q _=>∃(l:Ln) (tl pl n:Nat) (c c':CS) (e:Oe),ds=[l.g,.ref tl,.ref pl]∧l.beg=true∧St tl pl c.t c.f n M∧n+4≤5000∧cst c l=some c'∧c'.o=e::c.o∧∀M',Ks (F2 tl pl) M M'→St tl pl c'.t c'.f (n+4) M'→Q e.d M'
def Z9:DSp:=fun ds M Q _=>∃(tl pl n:Nat) (c c':CS) (e:Oe) (r:List Oe),ds=[e.d,.ref tl,.ref pl]∧c.o=e::r∧St tl pl c.t c.f n M∧n+4≤5000∧cst c .els=some c'∧∀M',Ks (F2 tl pl) M M'→St tl pl c'.t c'.f (n+4) M'→Q .non M'
def Ze:DSp:=fun ds M Q _=>∃(tl pl n:Nat) (c c':CS) (e:Oe) (r:List Oe),ds=[e.d,.ref tl,.ref pl]∧c.o=e::r∧St tl pl c.t c.f n M∧n+4≤5000∧cst c .don=some c'∧∀M',Ks (F2 tl pl) M M'→St tl pl c'.t c'.f (n+4) M'→Q .non M'
section
variable{K:Ab}{Γ:List DSp}{G:List D}
theorem Jn:∀ds M Q Z,Zm ds M Q Z→tss ⟨K,Γ,G⟩ noX b_begin_rows {nx:=fun _ M=>Q .non M,rt:=Q} (start0 Wm ds) M:=by
 rintro ds M Q Z ⟨l,tl,pl,n,c,c',e,rfl,hl,h,hn,hc,ho,q⟩
 delta b_begin_rows Wm
 have home:∀(b:Bool) (k:Int),c'.t=c.t→c'.f=up c.f (.agn,k) c.t.length→e= .home b k→∃kvs ks,Xq M pl=some kvs∧D.tup [.str "again",.int k]= .tup (List.map kD ks)∧kvs.length<sizeLine∧Q e.d (M.set pl (.dcp (putD kvs ks (.int (c.t.map Pr.d).length)))):=by
  intro b k e1 e2 _
  obtain⟨kvs,h1,h2,h3⟩:=h.p
  refine⟨kvs,lbk (.agn,k),h1,rfl,Z6 (by omega),?_⟩
  obtain⟨s1,s2⟩:=h.put h1 h2 h3 (.agn,k) c.t.length (by omega)
  rw[Ah]
  refine q _ s2 ?_
  rw[e1,e2]
  exact s1.up (by omega) (by omega)
 cases l with
 | rnd k=>
  cases hc
  cases ho
  simp only[Ln.g,Ln.d]
  walk_at "ev"
  refine Y7 (Z2 h.w) ⟨Z0 (by decide),.inr (.inr ?_)⟩
  exact home true k rfl rfl rfl
 | prt k=>
  cases hc
  cases ho
  simp only[Ln.g,Ln.d]
  walk_at "ev"
  refine Y7 (Z2 h.w) ⟨Z0 (by decide),.inr (.inr ?_)⟩
  exact home false k rfl rfl rfl
 | cond a s b=>
  cases hc
  cases ho
  simp only[Ln.g]
  walk_at "ev"
  try delta To
  try walk_at "ev"
  refine Y7 (Z2 h.w) ?_
  rw[Ah]
  walk_at "ev"
  rw[show U.cutD [D.str "choice",a.d,D.str s,b.d] (some 1) none=[a.d,.str s,b.d] from rfl]
  obtain⟨s1,k1⟩:=h.add (.test a s b (.yes,c.t.length)) (by omega)
  refine⟨Y3 (Z2 h.w),Z0 (by decide),by decide,by simp,Z0 (by simp),Z0 (by decide),Z0 (by decide),by simp,Z0 (by simp),_,h.w,Z6 (by rw[Ah];have:=h.l;omega),?_⟩
  rw[show(Kj M tl (Cell.lst (c.t.map Pr.d++[D.tup (D.str "test"::([a.d,.str s,b.d]++[D.tup [D.str "yes",D.int c.t.length]]))])):Z3)=M.set tl (.lst (c.t.map Pr.d++[(Pr.test a s b (.yes,c.t.length)).d])) from rfl]
  generalize M.set tl (.lst (c.t.map Pr.d++[(Pr.test a s b (.yes,c.t.length)).d]))=M1 at s1 k1
  walk_at "ev"
  obtain⟨s2,k2⟩:=s1.add (.jump (.no,c.t.length)) (by omega)
  refine⟨Y3 (Z2 s1.w),Z0 (by decide),Z0 (by decide),_,s1.w,Z6 (by rw[Ah];have:=s1.l;omega),?_⟩
  rw[show(Kj M1 tl (Cell.lst ((c.t++[Pr.test a s b (.yes,c.t.length)]).map Pr.d++[D.tup [D.str "jump",D.tup [D.str "no",D.int c.t.length]]])):Z3)=M1.set tl (.lst ((c.t++[Pr.test a s b (.yes,c.t.length)]).map Pr.d++[(Pr.jump (.no,c.t.length)).d])) from rfl]
  generalize M1.set tl (.lst ((c.t++[Pr.test a s b (.yes,c.t.length)]).map Pr.d++[(Pr.jump (.no,c.t.length)).d]))=M2 at s2 k2
  walk_at "ev"
  obtain⟨kvs,h1,h2,h3⟩:=s2.p
  obtain⟨s3,k3⟩:=s2.put h1 h2 h3 (.yes,c.t.length) (c.t.length+2) (by omega)
  refine Y7 (Z2 s2.w) ⟨Z0 (by decide),.inr (.inr ⟨kvs,lbk (.yes,c.t.length),h1,rfl,Z6 (by omega),?_⟩)⟩
  rw[Ah,show(c.t++[Pr.test a s b (.yes,c.t.length)]++[Pr.jump (.no,c.t.length)]).length=c.t.length+2 by simp]
  walk_at "ev"
  exact⟨Z0 (by decide),q _ ((k1.trans k2).trans k3) (s3.up (by omega) (by omega))⟩
 | _=>cases hl
theorem Z38:∀ds M Q Z,Z9 ds M Q Z→tss ⟨K,Γ,G⟩ noX b_begin_no {nx:=fun _ M=>Q .non M,rt:=Q} (start0 Td ds) M:=by
 rintro ds M Q Z ⟨tl,pl,n,⟨t,f,o⟩,c',e,r,rfl,ho,h,hn,hc,q⟩
 cases ho
 delta b_begin_no Td
 cases e with
 | home b k=>cases hc
 | cho k=>
  cases hc
  simp only[Oe.d]
  walk_at "ev"
  obtain⟨s1,k1⟩:=h.add (.jump (.beh,k)) (by omega)
  refine⟨Y3 (Z2 h.w),Z0 (by decide),Z0 (by decide),_,h.w,Z6 (by rw[Ah];have:=h.l;omega),?_⟩
  rw[show(Kj M tl (Cell.lst (t.map Pr.d++[D.tup [D.str "jump",D.tup [D.str "behind",D.int k]]])):Z3)=M.set tl (.lst (t.map Pr.d++[(Pr.jump (.beh,(k:Int))).d])) from rfl]
  generalize M.set tl (.lst (t.map Pr.d++[(Pr.jump (.beh,(k:Int))).d]))=M1 at s1 k1
  walk_at "ev"
  obtain⟨kvs,h1,h2,h3⟩:=s1.p
  obtain⟨s3,k3⟩:=s1.put h1 h2 h3 (.no,(k:Int)) (t.length+1) (by omega)
  refine Y7 (Z2 s1.w) ⟨Z0 (by decide),.inr (.inr ⟨kvs,lbk (.no,(k:Int)),h1,rfl,Z6 (by omega),?_⟩)⟩
  rw[Ah,Ac,Am]
  try walk_at "ev"
  exact q _ (k1.trans k3) (s3.up (by omega) (by omega))
theorem En{M:Z3}{Q:DK}{tl pl n:Nat}{t:List Pr}{f:Lb→Option Nat}{b:Bool}{k:Int}{d0:Option D}(h:St tl pl t f n M)(hn:n+1≤5000)(q:∀M',Ks (F2 tl pl) M M'→St tl pl t (up f (.lve,k) t.length) (n+1) M'→Q .non M'):
  tss ⟨K,Γ,G⟩ noX Xk {nx:=fun _ M=>Q .non M,rt:=Q} [d0,some (.ref tl),some (.ref pl),some (.str (if b then "round" else "part")),some (.int k)] M:=by
 delta Xk
 walk_at "ev"
 refine⟨Z0 (by decide),rfl,rfl,?_⟩
 dsimp only
 rw[show inD (.str (if b then "round" else "part")) [.str "round",.str "part"]=true by cases b<;>decide+kernel,if_pos rfl]
 obtain⟨kvs,h1,h2,h3⟩:=h.p
 obtain⟨s3,k3⟩:=h.put h1 h2 h3 (.lve,k) t.length (by omega)
 refine Y7 (Z2 h.w) ⟨Z0 (by decide),.inr (.inr ⟨kvs,lbk (.lve,k),h1,rfl,Z6 (by omega),?_⟩)⟩
 rw[Ah]
 try walk_at "ev"
 exact q _ k3 s3
theorem N8:∀ds M Q Z,Ze ds M Q Z→tss ⟨K,Γ,G⟩ noX b_finish_rows {nx:=fun _ M=>Q .non M,rt:=Q} (start0 W5 ds) M:=by
 rintro ds M Q Z ⟨tl,pl,n,⟨t,f,o⟩,c',e,r,rfl,ho,h,hn,hc,q⟩
 cases ho
 delta b_finish_rows W5
 cases e with
 | home b k=>
  cases b with
  | true=>
   cases hc
   simp only[Oe.d,if_true]
   walk_at "ev"
   try delta X3
   try walk_at "ev"
   obtain⟨s1,k1⟩:=h.add (.jump (.agn,k)) (by omega)
   refine⟨Y3 (Z2 h.w),Z0 (by decide),Z0 (by decide),_,h.w,Z6 (by rw[Ah];have:=h.l;omega),?_⟩
   rw[show(Kj M tl (Cell.lst (t.map Pr.d++[D.tup [D.str "jump",D.tup [D.str "again",D.int k]]])):Z3)=M.set tl (.lst (t.map Pr.d++[(Pr.jump (.agn,k)).d])) from rfl]
   generalize M.set tl (.lst (t.map Pr.d++[(Pr.jump (.agn,k)).d]))=M1 at s1 k1
   refine Su ?_
   refine Su ?_
   refine En (b:=true) s1 (by omega) fun M2 k2 s2=>q _ (k1.trans k2) ?_
   rw[Ac,Am] at s2
   exact s2.up (by omega) (by omega)
  | false=>
   cases hc
   simp only[Oe.d,Bool.false_eq_true,if_false]
   walk_at "ev"
   try delta X3
   try walk_at "ev"
   refine En (b:=false) h (by omega) fun M2 k2 s2=>q _ k2 ?_
   exact s2.up (by omega) (by omega)
 | cho k=>
  cases hc
  simp only[Oe.d]
  walk_at "ev"
  obtain⟨kvs,h1,h2,h3⟩:=h.p
  have go:∀(M1:Z3) (f1:Lb→Option Nat),Ks (F2 tl pl) M M1→St tl pl t f1 (n+1) M1→f1=up0 f (.no,(k:Int)) t.length→tss ⟨K,Γ,G⟩ noX (.cons (.put (.var 2) (.tup (.cons (.str "behind") (.cons (.var 4) .nil))) (.bf .len (.cons (.var 1) .nil))) .nil) {nx:=fun σ' M'=>Rest ⟨K,Γ,G⟩ noX X3 {nx:=fun _ M=>Q .non M,rt:=Q} σ' M',rt:=Q} [some (.tup [.str "choice",.int k]),some (.ref tl),some (.ref pl),some (.str "choice"),some (.int k)] M1:=by
   rintro M1 f1 k1 s1 rfl
   walk_at "ev"
   obtain⟨kvs,h1,h2,h3⟩:=s1.p
   obtain⟨s3,k3⟩:=s1.put h1 h2 h3 (.beh,(k:Int)) t.length (by omega)
   refine Y7 (Z2 s1.w) ⟨Z0 (by decide),.inr (.inr ⟨kvs,lbk (.beh,(k:Int)),h1,rfl,Z6 (by omega),?_⟩)⟩
   rw[Ah]
   generalize M1.set pl (.dcp (putD kvs (lbk (.beh,(k:Int))) (.int t.length)))=M2 at s3 k3
   walk_at "ev"
   try delta X3
   try walk_at "ev"
   try delta Xk
   try walk_at "ev"
   refine⟨Z0 (by decide),rfl,rfl,?_⟩
   dsimp only
   rw[show inD (.str "choice") [.str "round",.str "part"]=false by decide+kernel,if_neg Bool.false_ne_true]
   try walk_at "ev"
   exact q _ (k1.trans k3) (s3.up (by omega) (by omega))
  refine⟨by rw[h1];rfl,Z0 (by decide),Y7 (Z2 h.w) ⟨kvs,lbk (.no,(k:Int)),h1,rfl,Z6 (by omega),fun d hd=>?_,fun hd=>?_⟩⟩
  ·refine Su (go M _ (Ks.refl M) (h.up (by omega) (by omega)) ?_)
   unfold up0
   rw[if_pos]
   rw[h2] at hd
   dsimp only at hd
   cases e:f (.no,(k:Int)) with
   | none=>rw[e] at hd;cases hd
   | some v=>rfl
  ·obtain⟨s1,k1⟩:=h.put h1 h2 h3 (.no,(k:Int)) t.length (by omega)
   rw[Ah]
   refine Su (go _ _ k1 s1 ?_)
   unfold up0
   rw[if_neg]
   rw[h2] at hd
   dsimp only at hd
   cases e:f (.no,(k:Int)) with
   | none=>exact Bool.false_ne_true
   | some v=>rw[e] at hd;cases hd
end
inductive Raw where
 | sum (x:Str) (a:Opd) (sg:Str) (b:Opd) | test (a:Opd) (sg:Str) (b:Opd) (t:Nat) | jump (t:Nat) | fin
noncomputable def Raw.l:Raw→List D
 | .sum x a sg b=>[.str "sum",.str x,a.d,.str sg,b.d]
 | .test a sg b t=>[.str "test",a.d,.str sg,b.d,.int (t:Nat)]
 | .jump t=>[.str "jump",.int (t:Nat)]
 | .fin=>[.str "end"]
noncomputable def res(f:Lb→Option Nat):Pr→Option Raw
 | .sum x a s b=>some (.sum x a s b)
 | .test a s b l=>(f l).map (Raw.test a s b)
 | .jump l=>(f l).map Raw.jump
 | .fin=>some .fin
noncomputable def Raw.rw(k:Nat):Raw→Rw
 | .sum x a sg b=> .sum k x a sg b
 | .test a sg b t=> .test k a sg b t
 | .jump t=> .jump k t
 | .fin=> .fin k
theorem Raw.rw_d(k:Nat)(r:Raw):(r.rw k).d= .tup (.int (k:Nat)::r.l):=by cases r<;>rfl
noncomputable def X7(raws:List Raw):List Rw:=raws.mapIdx fun k r=>r.rw k
theorem Y5(raws:List Raw):(X7 raws).length=raws.length:=by unfold X7;simp
theorem W1{k:Nat}{raws:List Raw}{r:Raw}(h:raws[k]?=some r):(X7 raws)[k]?=some (r.rw k):=by unfold X7;rw[Km,h];rfl
def Y2:DSp:=fun ds M Q _=>∃(p:Pr) (pl:Nat) (kvs:List (List Key×D)) (f:Lb→Option Nat) (r:Raw),ds=[p.d,.ref pl]∧Xq M pl=some kvs∧PM kvs f∧res f p=some r∧Q (.tup r.l) M
section
variable{K:Ab}{Γ:List DSp}{G:List D}
theorem Ek:∀ds M Q Z,Y2 ds M Q Z→tss ⟨K,Γ,G⟩ noX b_with_goal {nx:=fun _ M=>Q .non M,rt:=Q} (start0 V6 ds) M:=by
 rintro ds M Q Z ⟨p,pl,kvs,f,r,rfl,hp,pm,hr,q⟩
 delta b_with_goal V6
 cases p with
 | sum x a s b=>
  cases hr
  simp only[Pr.d]
  walk_at "ev"
  refine⟨Z0 (by decide),rfl,rfl,?_⟩
  dsimp only
  rw[show inD (.str "sum") [.str "test",.str "jump"]=false by decide+kernel,if_neg Bool.false_ne_true]
  try delta V2
  try walk_at "ev"
  exact q
 | fin=>
  cases hr
  simp only[Pr.d]
  walk_at "ev"
  refine⟨Z0 (by decide),rfl,rfl,?_⟩
  dsimp only
  rw[show inD (.str "end") [.str "test",.str "jump"]=false by decide+kernel,if_neg Bool.false_ne_true]
  try delta V2
  try walk_at "ev"
  exact q
 | test a s b l=>
  obtain⟨g,hg,rfl⟩:=Dm.mp (show(f l).map (Raw.test a s b)=some r from hr)
  simp only[Pr.d]
  walk_at "ev"
  refine⟨Z0 (by decide),rfl,rfl,?_⟩
  dsimp only
  rw[show inD (.str "test") [.str "test",.str "jump"]=true by decide+kernel,if_pos rfl,show U.cutD [D.str "test",a.d,D.str s,b.d,lbd l] none (some (-1))=[.str "test",a.d,.str s,b.d] from rfl]
  refine⟨by decide,_,rfl,ix_p (ks:=lbk l) hp (by rw[pm,hg];rfl) ⟨Z0 (by decide),by simp,Z0 (by simp),q⟩⟩
 | jump l=>
  obtain⟨g,hg,rfl⟩:=Dm.mp (show(f l).map Raw.jump=some r from hr)
  simp only[Pr.d]
  walk_at "ev"
  refine⟨Z0 (by decide),rfl,rfl,?_⟩
  dsimp only
  rw[show inD (.str "jump") [.str "test",.str "jump"]=true by decide+kernel,if_pos rfl,show U.cutD [D.str "jump",lbd l] none (some (-1))=[.str "jump"] from rfl]
  refine⟨by decide,_,rfl,ix_p (ks:=lbk l) hp (by rw[pm,hg];rfl) ⟨Z0 (by decide),by simp,Z0 (by simp),q⟩⟩
end
theorem Opd.flat(o:Opd):Yt o.d=true:=by cases o<;>rfl
theorem W6(h k:Str)(xs:List D)(hk:¬h=k):eqFs (.str h::xs) [.str k]=false:=by
 unfold eqFs
 rw[show min (D.str h::xs).length [D.str k].length=1 by simp]
 show((eqF (.str h) (.str k)&&true)&&_)=false
 have:eqF (.str h) (.str k)=false:=by show(h==k)=false;simpa using hk
 rw[this]
 rfl
theorem Qt{M:Z3}{x:D}{xs ys:List D}{B:Bool→Prop}(hx:x= .tup xs∨x= .gtup xs)(f1:xs.all Yt=true)(f2:ys.all Yt=true)(q:B (eqFs xs ys)):eqD M x (.gtup ys) B:=by
 rcases hx with rfl | rfl
 ·exact .inr (.inr (.inr ⟨xs,ys,.inl rfl,.inr rfl,f1,f2,q⟩))
 ·exact .inr (.inr (.inr ⟨xs,ys,.inr rfl,.inr rfl,f1,f2,q⟩))
noncomputable def c0:CS:=⟨[],fun _=>none,[]⟩
def Zg:DSp:=fun ds M Q _=>∃(C:Nat→Prop) (us:List T) (r:Nat) (ds':List D) (c:CS) (raws:List Raw),ds=[.ref r]∧Zf M r=some ds'∧RTs C M us ds'∧(∀c,C c→c<M.length)∧(fls us).length≤1000∧crun c0 (fls us)=some c∧(c.t++[Pr.fin]).map (res c.f)=raws.map some∧
 ∀M' r',Kp M M'→Zf M' r'=some ((X7 raws).map Rw.d)→M.length≤r'→Q (.ref r') M'
structure Ro(M:Z3)(q:Nat)(ls:List Ln)(c:CS)(n:Nat)(M':Z3):Prop where
 k:Kp M M'
 s:St M.length (M.length+1) c.t c.f n M'
 o:Zf M' (M.length+2)=some (c.o.reverse.map Oe.d)
 ol:c.o.length≤n
 q0:M.length+3≤q
 q:Zf M' q=some (ls.map Ln.g)
section
variable{M M' M2:Z3}{q n m:Nat}{ls:List Ln}{c c':CS}
theorem Ro.ks(h:Ro M q ls c n M')(k:Ks (F2 M.length (M.length+1)) M' M2)(s:St M.length (M.length+1) c'.t c'.f m M2)(e:c'.o=c.o)(hm:n≤m):Ro M q ls c' m M2:=by
 have h0:=h.q0
 refine⟨⟨fun a _ l=>?_,Nat.le_trans h.k.len k.len⟩,s,?_,by rw[e];have:=h.ol;omega,h0,?_⟩
 ·have:=h.k.len
  rw[k.at' a (by rintro(z | z)<;>omega) (by omega)]
  exact h.k.at' a (fun z=>z) l
 ·rw[e,T6 (k.at' (M.length+2) (by rintro(z | z)<;>omega) (Ys (Z2 h.o)))]
  exact h.o
 ·rw[T6 (k.at' q (by rintro(z | z)<;>omega) (Ys (Z2 h.q)))]
  exact h.q
theorem Ro.op(h:Ro M q ls c n M')(o:List Oe)(ho:o.length≤n):Ro M q ls ⟨c.t,c.f,o⟩ n (M'.set (M.length+2) (.lst (o.reverse.map Oe.d))):=by
 have h0:=h.q0
 obtain⟨kvs,h1,h2,h3⟩:=h.s.p
 refine⟨h.k.set (.inr (by omega)),⟨?_,⟨kvs,?_,h2,h3⟩,h.s.l,h.s.b⟩,Wx (Ys (Z2 h.o)),ho,h0,?_⟩
 ·rw[X9 (by omega)];exact h.s.w
 ·rw[Nu (O0 (by omega))];exact h1
 ·rw[X9 (by omega)];exact h.q
end
noncomputable abbrev opn:List D:=[.str "choice",.str "round",.str "part"]
section
variable{K:Ab}{Γ:List DSp}{G:List D}
theorem Zy2(e2:G[2]?=some (.gtup [.str "else"]))(e3:G[3]?=some (.gtup [.str "done"]))(e4:G[4]?=some (.gtup opn))(g4:Γ[4]?=some Zm)(g5:Γ[5]?=some Z9)(g6:Γ[6]?=some Ze)
  {M M':Z3} {qq n r:Nat} {ls:List Ln} {c c':CS} {l:Ln} {Q:DK} {P B:DEnv→Z3→Prop} (h:Ro M qq ls c n M') (hn:n+4≤5000) (hc:cst c l=some c') (q:∀M2,Ro M qq ls c' (n+4) M2→P [some (.ref r),some (.ref M.length),some (.ref (M.length+1)),some (.ref (M.length+2)),some l.g] M2):
  tss ⟨K,Γ,G⟩ noX S3 {nx:=P,rt:=Q,bk:=B,ct:=P} [some (.ref r),some (.ref M.length),some (.ref (M.length+1)),some (.ref (M.length+2)),some l.g] M':=by
 have opens:∀e,l.beg=true→c'.o=e::c.o→Zm [l.g,.ref M.length,.ref (M.length+1)] M' (fun d M1=>∃xs,Zf M1 (M.length+2)=some xs∧xs.length<sizeLine∧P [some (.ref r),some (.ref M.length),some (.ref (M.length+1)),some (.ref (M.length+2)),some l.g] (M1.set (M.length+2) (.lst (xs++[d])))) noX:=by
  intro e hb ho
  refine⟨l,_,_,n,c,c',e,rfl,hb,h.s,hn,hc,ho,fun M1 k1 s1=>?_⟩
  have h1:Ro M qq ls ⟨c'.t,c'.f,c.o⟩ (n+4) M1:=h.ks k1 s1 rfl (by omega)
  refine⟨_,h1.o,Z6 (by rw[Ah,List.length_reverse];have:c.o.length≤n+4:=h1.ol;show c.o.length≤_;omega),?_⟩
  have h2:=h1.op (e::c.o) (by have:=h.ol;rw[An];omega)
  have h3:Ro M qq ls c' (n+4) (M1.set (M.length+2) (.lst ((e::c.o).reverse.map Oe.d))):=by
   rw[←ho] at h2 ⊢
   exact h2
  rw[show(c.o.reverse.map Oe.d++[e.d]:List D)=(e::c.o).reverse.map Oe.d by simp]
  exact q _ h3
 have adds:∀p:Pr,c'=⟨c.t++[p],c.f,c.o⟩→(Zo M' M.length).isSome=true∧∃xs,Zf M' M.length=some xs∧xs.length<sizeLine∧P [some (.ref r),some (.ref M.length),some (.ref (M.length+1)),some (.ref (M.length+2)),some l.g] (M'.set M.length (.lst (xs++[p.d]))):=by
  rintro p rfl
  obtain⟨s1,k1⟩:=h.s.add p (by omega)
  refine⟨Y3 (Z2 h.s.w),_,h.s.w,Z6 (by rw[Ah];have:=h.s.l;omega),q _ (h.ks k1 (s1.up (by omega) (by omega)) rfl (by omega))⟩
 delta S3
 cases l with
 | cond a s b=>
  simp only[Ln.g]
  walk_at "ev"
  simp only[e4]
  refine⟨rfl,rfl,?_⟩
  dsimp only
  rw[show inD (.str "choice") opn=true by decide+kernel,if_pos rfl]
  cases hc
  exact⟨Y3 (Z2 h.o),opens _ rfl rfl⟩
 | rnd k=>
  simp only[Ln.g,Ln.d]
  walk_at "ev"
  simp only[e4]
  refine⟨rfl,rfl,?_⟩
  dsimp only
  rw[show inD (.str "round") opn=true by decide+kernel,if_pos rfl]
  cases hc
  exact⟨Y3 (Z2 h.o),opens _ rfl rfl⟩
 | prt k=>
  simp only[Ln.g,Ln.d]
  walk_at "ev"
  simp only[e4]
  refine⟨rfl,rfl,?_⟩
  dsimp only
  rw[show inD (.str "part") opn=true by decide+kernel,if_pos rfl]
  cases hc
  exact⟨Y3 (Z2 h.o),opens _ rfl rfl⟩
 | els=>
  simp only[Ln.g]
  walk_at "ev"
  simp only[e2,e4]
  refine⟨rfl,rfl,?_⟩
  dsimp only
  rw[show inD (.str "else") opn=false by decide+kernel,if_neg Bool.false_ne_true]
  try walk_at "ev"
  refine Qt (.inr rfl) rfl rfl ?_
  rw[show eqFs [.str "else"] [.str "else"]=true by decide+kernel,if_pos rfl]
  try walk_at "ev"
  cases ho:c.o with
  | nil=>unfold cst at hc;rw[ho] at hc;cases hc
  | cons e rr=>
   have hlast:atI (c.o.reverse.map Oe.d) (-1)=some e.d:=by rw[ho];simp only[List.reverse_cons,Az,Dd,Ih];exact Zo7 _ _
   refine Y71 (Z2 h.o) hlast ⟨_,_,n,c,c',e,rr,rfl,ho,h.s,hn,hc,fun M1 k1 s1=>q _ (h.ks k1 s1 ?_ (by omega))⟩
   unfold cst at hc
   rw[ho] at hc ⊢
   cases e with
   | cho k=>cases hc;rfl
   | home b k=>cases hc
 | don=>
  simp only[Ln.g]
  walk_at "ev"
  simp only[e2,e3,e4]
  refine⟨rfl,rfl,?_⟩
  dsimp only
  rw[show inD (.str "done") opn=false by decide+kernel,if_neg Bool.false_ne_true]
  try walk_at "ev"
  try simp only[e2,e3]
  refine Qt (.inr rfl) rfl rfl ?_
  rw[W6 _ _ _ (by decide+kernel),if_neg Bool.false_ne_true]
  try walk_at "ev"
  try simp only[e2,e3]
  refine Qt (.inr rfl) rfl rfl ?_
  rw[show eqFs [.str "done"] [.str "done"]=true by decide+kernel,if_pos rfl]
  try walk_at "ev"
  cases ho:c.o with
  | nil=>unfold cst at hc;rw[ho] at hc;cases hc
  | cons e rr=>
   have hx:c.o.reverse.map Oe.d=rr.reverse.map Oe.d++[e.d]:=by rw[ho];simp
   refine⟨Y3 (Z2 h.o),_,e.d,h.o,by rw[hx];simp,?_⟩
   rw[hx,List.dropLast_concat]
   have h1:=h.op rr (by have:=h.ol;rw[ho,An] at this;omega)
   generalize M'.set (M.length+2) (.lst (rr.reverse.map Oe.d))=M1 at h1
   refine⟨_,_,n,c,c',e,rr,rfl,ho,h1.s,hn,hc,fun M2 k2 s2=>q _ (h1.ks k2 s2 ?_ (by omega))⟩
   unfold cst at hc
   rw[ho] at hc
   cases e with
   | cho k=>cases hc;rfl
   | home b k=>cases b<;>(cases hc;rfl)
 | lve k=>
  simp only[Ln.g,Ln.d]
  walk_at "ev"
  simp only[e2,e3,e4]
  refine⟨rfl,rfl,?_⟩
  dsimp only
  rw[show inD (.str "leave") opn=false by decide+kernel,if_neg Bool.false_ne_true]
  try walk_at "ev"
  try simp only[e2,e3]
  refine Qt (.inl rfl) rfl rfl ?_
  rw[W6 _ _ _ (by decide+kernel),if_neg Bool.false_ne_true]
  try walk_at "ev"
  try simp only[e2,e3]
  refine Qt (.inl rfl) rfl rfl ?_
  rw[W6 _ _ _ (by decide+kernel),if_neg Bool.false_ne_true]
  try walk_at "ev"
  refine⟨Z0 (by decide),rfl,rfl,?_⟩
  dsimp only
  rw[show inD (.str "leave") [.str "leave",.str "again"]=true by decide+kernel,if_pos rfl]
  cases hc
  obtain⟨a1,a2⟩:=adds (.jump (.lve,k)) rfl
  exact⟨a1,Z0 (by decide),a2⟩
 | agn k=>
  simp only[Ln.g,Ln.d]
  walk_at "ev"
  simp only[e2,e3,e4]
  refine⟨rfl,rfl,?_⟩
  dsimp only
  rw[show inD (.str "again") opn=false by decide+kernel,if_neg Bool.false_ne_true]
  try walk_at "ev"
  try simp only[e2,e3]
  refine Qt (.inl rfl) rfl rfl ?_
  rw[W6 _ _ _ (by decide+kernel),if_neg Bool.false_ne_true]
  try walk_at "ev"
  try simp only[e2,e3]
  refine Qt (.inl rfl) rfl rfl ?_
  rw[W6 _ _ _ (by decide+kernel),if_neg Bool.false_ne_true]
  try walk_at "ev"
  refine⟨Z0 (by decide),rfl,rfl,?_⟩
  dsimp only
  rw[show inD (.str "again") [.str "leave",.str "again"]=true by decide+kernel,if_pos rfl]
  cases hc
  obtain⟨a1,a2⟩:=adds (.jump (.agn,k)) rfl
  exact⟨a1,Z0 (by decide),a2⟩
 | sum x a s b=>
  simp only[Ln.g,Ln.d]
  walk_at "ev"
  simp only[e2,e3,e4]
  refine⟨rfl,rfl,?_⟩
  dsimp only
  rw[show inD (.str "sum") opn=false by decide+kernel,if_neg Bool.false_ne_true]
  try walk_at "ev"
  try simp only[e2,e3]
  refine Qt (.inl rfl) (by show(true&&(true&&(Yt a.d&&(true&&(Yt b.d&&true)))))=true;rw[a.flat,b.flat];rfl) rfl ?_
  rw[W6 _ _ _ (by decide+kernel),if_neg Bool.false_ne_true]
  try walk_at "ev"
  try simp only[e2,e3]
  refine Qt (.inl rfl) (by show(true&&(true&&(Yt a.d&&(true&&(Yt b.d&&true)))))=true;rw[a.flat,b.flat];rfl) rfl ?_
  rw[W6 _ _ _ (by decide+kernel),if_neg Bool.false_ne_true]
  try walk_at "ev"
  refine⟨Z0 (by decide),rfl,rfl,?_⟩
  dsimp only
  rw[show inD (.str "sum") [.str "leave",.str "again"]=false by decide+kernel,if_neg Bool.false_ne_true]
  cases hc
  exact adds (.sum x a s b) rfl
 | fin=>
  simp only[Ln.g,Ln.d]
  walk_at "ev"
  simp only[e2,e3,e4]
  refine⟨rfl,rfl,?_⟩
  dsimp only
  rw[show inD (.str "end") opn=false by decide+kernel,if_neg Bool.false_ne_true]
  try walk_at "ev"
  try simp only[e2,e3]
  refine Qt (.inl rfl) rfl rfl ?_
  rw[W6 _ _ _ (by decide+kernel),if_neg Bool.false_ne_true]
  try walk_at "ev"
  try simp only[e2,e3]
  refine Qt (.inl rfl) rfl rfl ?_
  rw[W6 _ _ _ (by decide+kernel),if_neg Bool.false_ne_true]
  try walk_at "ev"
  refine⟨Z0 (by decide),rfl,rfl,?_⟩
  dsimp only
  rw[show inD (.str "end") [.str "leave",.str "again"]=false by decide+kernel,if_neg Bool.false_ne_true]
  cases hc
  exact adds .fin rfl
theorem Zb5(e2:G[2]?=some (.gtup [.str "else"]))(e3:G[3]?=some (.gtup [.str "done"]))(e4:G[4]?=some (.gtup opn))(g2:Γ[2]?=some Z7)(g3:Γ[3]?=some Y2)(g4:Γ[4]?=some Zm)(g5:Γ[5]?=some Z9)(g6:Γ[6]?=some Ze):∀ds M Q Z,Zg ds M Q Z→tss ⟨K,Γ,G⟩ noX b_rows_of {nx:=fun _ M=>Q .non M,rt:=Q} (start0 S9 ds) M:=by
 rintro ds M Q Z ⟨C,us,r,ds',cF,raws,rfl,hr,rt,hC,hz,hcr,hres,q⟩
 delta b_rows_of S9
 walk_at "ev"
 refine⟨Z0 (by decide),?_⟩
 walk_at "ev"
 refine⟨Z0 (by decide),?_⟩
 walk_at "ev"
 have k1:Kp M (M++[Cell.lst []]++[Cell.dcp []]++[Cell.lst []]):=((Ks.new M _).app _).app _
 refine⟨C,us,r,ds',rfl,k1.W hr,rt.keep (fun _ z=>z) (k1.cl hC),fun c hc=>Nat.lt_of_lt_of_le (hC c hc) k1.len,hz,fun M2 r2 k2 hr2 hl2=>?_⟩
 walk_at "ev"
 have l1:(M++[Cell.lst []]:Z3).length=M.length+1:=by simp
 have l2:(M++[Cell.lst []]++[Cell.dcp []]:Z3).length=M.length+2:=by simp
 have l3:(M++[Cell.lst []]++[Cell.dcp []]++[Cell.lst []]:Z3).length=M.length+3:=by simp
 rw[l1,l2]
 rw[l3] at hl2
 have rp0:Xq (M++[Cell.lst []]++[Cell.dcp []]++[Cell.lst []]) (M.length+1)=some []:=by
  unfold Xq
  rw[Dg,Dg,Dk (by omega),Nat.add_sub_cancel_left]
  rfl
 have ro0:Ro M r2 (fls us) c0 0 M2:=by
  refine⟨(k1.trans k2),⟨k2.W ?_,⟨[],?_,fun l=>rfl,Nat.le_refl _⟩,Nat.le_refl _,by decide⟩,k2.W ?_,Nat.le_refl _,hl2,hr2⟩
  ·rw[Dg,Dg];exact Zd _ _ _
  ·rw[Nu (k2.at' _ (fun z=>z) (B1 rp0))];exact rp0
  ·rw[←l2];exact Zd _ _ []
 refine⟨_,Z2 hr2,?_⟩
 refine Tt (fun i σ M'=>∃(d:Option D) (c:CS),σ=[some (.ref r),some (.ref M.length),some (.ref (M.length+1)),some (.ref (M.length+2)),d]∧Ro M r2 (fls us) c (4 * i) M'∧crun c ((fls us).drop i)=some cF) ⟨none,c0,rfl,ro0,hcr⟩ ?_ ?_ ?_
 ·rintro i σ M' _ ⟨d,c,rfl,ro,_⟩
  exact Z2 ro.q
 ·rintro i d σ M' P hd ⟨d0,c,rfl,ro,hcc⟩ hP
  obtain⟨l,hl1,rfl⟩:∃l,(fls us)[i]?=some l∧d=l.g:=by
   rw[Ax] at hd
   cases e:(fls us)[i]? with
   | none=>rw[e] at hd;cases hd
   | some l=>rw[e] at hd;cases hd;exact⟨l,rfl,rfl⟩
  obtain⟨hi,hli⟩:=Af.mp hl1
  rw[Hn hi,hli] at hcc
  rw[tg_one]
  obtain⟨c',hc1,hc2⟩:=Option.bind_eq_some_iff.mp (show(cst c l).bind _=some cF from hcc)
  refine Zy2 e2 e3 e4 g4 g5 g6 ro (by omega) hc1 fun M3 ro3=>hP _ _ ⟨_,c',rfl,?_,hc2⟩
  exact ro3
 ·rintro σ M' ⟨d,c,rfl,ro,hcc⟩
  rw[Ah,List.drop_length] at hcc
  cases hcc
  rw[Ah] at ro
  delta Qn
  walk_at "ev"
  obtain⟨s1,k5⟩:=ro.s.add .fin (by omega)
  refine⟨Y3 (Z2 ro.s.w),Z0 (by decide),_,ro.s.w,Z6 (by rw[Ah];have:=ro.s.l;omega),?_⟩
  have k6:Kp M (M'.set M.length (.lst (cF.t.map Pr.d++[Pr.fin.d]))):=ro.k.set (.inr (Nat.le_refl _))
  rw[show(Kj M' M.length (Cell.lst (cF.t.map Pr.d++[D.tup [D.str "end"]])):Z3)=M'.set M.length (.lst (cF.t.map Pr.d++[Pr.fin.d])) from rfl]
  generalize M'.set M.length (.lst (cF.t.map Pr.d++[Pr.fin.d]))=M5 at s1 k6
  clear k5
  walk_at "ev"
  refine⟨_,Z2 s1.w,?_⟩
  simp only[capD,Dd,Ih,Option.bind_none,Dp,Kz,Ir,Option.join_some]
  have hlen:(cF.t++[Pr.fin]).length=raws.length:=by have:=congrArg List.length hres;rwa[Ah,Ah] at this
  have hsl:=s1.l
  obtain⟨kvs,h1,h2,h3⟩:=s1.p
  have rP:∀N,Xq (M5++N) (M.length+1)=some kvs:=fun N=>Za1 h1
  have rT:∀N,Zo (M5++N) M.length=some ((cF.t++[Pr.fin]).map Pr.d):=fun N=>Y6 (Z2 s1.w)
  refine Q7 (fun i σ M'=>∃d1 d2,σ=[d1,d2,some (.ref (M.length+1))]∧M'=M5++[.lst (((X7 raws).take i).map Rw.d)]) ⟨none,none,rfl,rfl⟩ ?_ ?_ ?_
  ·rintro i σ M' _ ⟨d1,d2,rfl,rfl⟩
   exact⟨_,rT _,rfl⟩
  ·rintro i dx σ M' C hx ⟨d1,d2,rfl,rfl⟩ hC
   obtain⟨y,hy,rfl⟩:=Na hx
   have hi:i< (cF.t++[Pr.fin]).length:=by have:=(Af.mp hy).1;rwa[Ah] at this
   obtain⟨p,hp⟩:∃p,(cF.t++[Pr.fin])[i]?=some p:=⟨_,Ai hi⟩
   rw[Ax,hp] at hy
   cases hy
   obtain⟨rw_,hrw⟩:∃r,raws[i]?=some r:=⟨_,Ai (by omega)⟩
   have hrs:res cF.f p=some rw_:=by
    have:=congrArg (fun l=>l[i]?) hres
    simp only[Ax,hp,hrw,Option.map_some] at this
    exact Dw this
   walk_at "ev"
   refine⟨Z0 (by decide),p,_,kvs,cF.f,rw_,rfl,rP _,h2,hrs,?_⟩
   try walk_at "ev"
   refine⟨by simp,Z0 (by cases rw_<;>simp[Raw.l]),_,Zd _ _ [],Z6 (by rw[Ah,Iu,Y5];omega),?_⟩
   rw[Xl]
   refine hC _ _ ⟨_,_,rfl,?_⟩
   rw[Sk (W1 hrw),Az,Dd,Ih,Raw.rw_d]
  ·rintro σ M' ⟨d1,d2,rfl,rfl⟩
   rw[Oz,Ah,hlen,←Y5 raws,List.take_length]
   try walk_at "ev"
   exact q _ _ (k6.app _) (Zd _ _ []) k6.len
end
theorem ix_m{M:Z3}{n:Nat}{xs:List D}{i m:Int}{F:D→Prop}(h:Zo M n=some xs)(hm:m=xs.length)(h0:0<xs.length)(q:∀d,d∈xs→F d):ixD M (.ref n) (.int (qmod i m)) F:=by
 subst hm
 rw[qm (by omega)]
 obtain⟨d,e1,e2⟩:=Yd4 (xs:=xs) (Int.emod_nonneg i (b:=(xs.length:Int)) (by omega)) (Int.emod_lt_of_pos i (by omega))
 exact Y71 h e1 (q d e2)
def Scr(M:Z3)(a:Nat):Prop:=∃ns:List Int,Zo M a=some (ns.map .int)∧ns.length≤63
theorem Scr.kp{M M':Z3}{a:Nat}(h:Scr M a)(k:Kp M M'):Scr M' a:=by obtain⟨ns,e,l⟩:=h;exact⟨ns,k.L e,l⟩
def Vh:DSp:=fun ds M Q _=>∃(a k:Nat),ds=[.ref a,.int k]∧Scr M a∧∀v,Q (.int v) M
def Tn:DSp:=fun ds M Q _=>∃(a k:Nat),ds=[.ref a,.int k]∧Scr M a∧k≤1000∧∀v:Nat,v<2147483647→Q (.int v) M
section
variable{K:Ab}
theorem Y58{Γ G}:∀ds M Q Z,Vh ds M Q Z→tss ⟨K,Γ,G⟩ noX b_Lraw {nx:=fun _ M=>Q .non M,rt:=Q} (start0 Ct ds) M:=by
 rintro ds M Q Z ⟨a,k,rfl,⟨ns,hm,hl⟩,q⟩
 delta b_Lraw Ct
 walk_at "ev"
 refine Y7 hm ?_
 walk_at "ev"
 split
 ·exact q _
 ·rename_i h
  try delta Cw
  try walk_at "ev"
  refine Y7 hm ⟨by omega,ix_m hm rfl (by omega) fun d hd=>?_⟩
  obtain⟨v,_,rfl⟩:=List.mem_map.mp hd
  exact q v
theorem mixR{M:Z3}{Q:DK}{v:Int}(q:∀v:Nat,v<2147483647→Q (.int v) M):Q (.int (qmod v 2147483647)) M:=by
 rw[qm (by decide)]
 have h1:=Int.emod_nonneg v (show(2147483647:Int)≠0 by decide)
 have h2:=Int.emod_lt_of_pos v (show(0:Int)<2147483647 by decide)
 have:=q (v % 2147483647).toNat (by omega)
 rwa[Int.toNat_of_nonneg h1] at this
theorem Ya5{Γ G}(g22:Γ[22]?=some Vh):∀ds M Q Z,Tn ds M Q Z→tss ⟨K,Γ,G⟩ noX b_Lmix {nx:=fun _ M=>Q .non M,rt:=Q} (start0 Ez ds) M:=by
 rintro ds M Q Z ⟨a,k,rfl,hs,hk,q⟩
 obtain⟨ns,hm,hl⟩:=id hs
 delta b_Lmix Ez
 walk_at "ev"
 refine Y7 hm ?_
 walk_at "ev"
 split
 ·exact⟨mulR (by omega) (by omega),mulR (by decide) (by decide),mixR q⟩
 ·rename_i h
  try delta C8
  try walk_at "ev"
  have hp:(0:Int)< (ns.map D.int).length:=by omega
  refine Y7 hm ⟨Yi hp (by rw[Ah];omega),?_⟩
  rw[qd hp]
  try walk_at "ev"
  have d1:0≤(k:Int) / (ns.map D.int).length:=Int.ediv_nonneg (by omega) (by omega)
  have d2:(k:Int) / (ns.map D.int).length≤k:=Int.ediv_le_self _ (by omega)
  try simp only[g22]
  refine⟨a,k,rfl,hs,fun v=>?_⟩
  walk_at "ev"
  refine⟨mulL (by decide) (by decide),mulR (by omega) (by omega),mulR ?_ ?_,mixR q⟩
  ·have:0≤7 * ((k:Int) / (ns.map D.int).length) * ((k:Int) / (ns.map D.int).length):=Int.mul_nonneg (by omega) d1
   omega
  ·have:7 * ((k:Int) / (ns.map D.int).length) * ((k:Int) / (ns.map D.int).length)≤7000 * 1000:=Int.mul_le_mul (by omega) (by omega) d1 (by decide)
   omega
end
abbrev Al(M:Z3):Nat→Prop:=fun c=>c<M.length
def Fm(M:Z3)(us:List T)(r:Nat):Prop:=∃ds:List D,Zf M r=some ds∧RTs (Al M) M us ds
theorem RTs.kp{M M':Z3}(k:Kp M M'){us:List T}{ds:List D}(h:RTs (Al M) M us ds):RTs (Al M') M' us ds:=h.keep (fun _ z=>Nat.lt_of_lt_of_le z k.len) fun c hc=>k.at' c (fun z=>z) hc
theorem Fm.kp{M M':Z3}{us:List T}{r:Nat}(h:Fm M us r)(k:Kp M M'):Fm M' us r:=by obtain⟨ds,h1,h2⟩:=h;exact⟨ds,k.W h1,h2.kp k⟩
theorem Fm.home{M:Z3}{us:List T}{r:Nat}(h:Fm M us r)(w:Bool)(n:Int):Fm (M++[.lst [.tup [.str (if w then "round" else "part"),.int n,.ref r]]]) [.home w n us] M.length:=by
 have k:Kp M (M++[.lst [.tup [.str (if w then "round" else "part"),.int n,.ref r]]]):=Ks.new _ _
 obtain⟨ds,h1,h2⟩:=h
 exact⟨_,Zd _ _ [],RTs.one ⟨r,ds,rfl,Nat.lt_of_lt_of_le (Ys (Z2 h1)) k.len,k.W h1,h2.kp k⟩⟩
theorem Fm.add{M:Z3}{us vs:List T}{r q:Nat}{ds es:List D}(h:Fm M us r)(g:Fm M vs q)(h1:Zf M r=some ds)(g1:Zf M q=some es):Fm (M++[.lst (ds++es)]) (us++vs) M.length:=by
 have k:Kp M (M++[.lst (ds++es)]):=Ks.new _ _
 obtain⟨ds',e1,h2⟩:=h
 obtain⟨es',e2,g2⟩:=g
 rw[h1] at e1
 rw[g1] at e2
 cases e1
 cases e2
 exact⟨_,Zd _ _ [],(h2.kp k).app (g2.kp k)⟩
theorem Fm.get{M:Z3}{us:List T}{r:Nat}(h:Fm M us r):∃ds,Zf M r=some ds∧ds.length=us.length:=by obtain⟨ds,e1,h2⟩:=h;exact⟨ds,e1,h2.len⟩
theorem RTs.cons{C:Nat→Prop}{M:Z3}{t:T}{ts:List T}{d:D}{ds:List D}(h:RT C M t d)(g:RTs C M ts ds):RTs C M (t::ts) (d::ds):=⟨d,ds,rfl,h,g⟩
theorem RTs.nil{C:Nat→Prop}{M:Z3}:RTs C M [] []:=rfl
theorem Fm.new{M:Z3}{us:List T}{ds:List D}(h:RTs (Al M) M us ds):Fm (M++[.lst ds]) us M.length:=⟨ds,Zd _ _ [],h.kp (Ks.new _ _)⟩
theorem RT.leaf{C:Nat→Prop}{M:Z3}{l:Ln}(h1:l.pl=true)(h2:l.beg=false):RT C M (.leaf l) l.d:=⟨rfl,h1,h2⟩
theorem RT.cho{M:Z3}{y n:List T}{r q:Nat}{a b:Opd}{s:Str}(h:Fm M y r)(g:Fm M n q):RT (Al M) M (.cho a s b y n) (.tup [.str "choice",a.d,.str s,b.d,.ref r,.ref q]):=let ⟨ds,e1,h2⟩:=h;let ⟨es,e2,g2⟩:=g;⟨r,q,ds,es,rfl,Ys (Z2 e1),Ys (Z2 e2),e1,h2,e2,g2⟩
noncomputable def cnt(way:Nat)(x:Str)(lim:Opd):List T:=if way=0 then [.home true 5 [.leaf (.sum x (.nm x) "+" (.no 1)),.cho (.nm x) "<" lim [.leaf (.agn 5)] [],.leaf (.lve 5)]]
 else if way=1 then [.home true 5 [.leaf (.sum x (.nm x) "+" (.no 1)),.cho (.nm x) "<" lim [] [.leaf (.lve 5)]]]
 else [.home true 5 [.home false 6 [.leaf (.sum x (.nm x) "+" (.no 1)),.cho (.nm x) "<" lim [.leaf (.lve 6)] [],.leaf (.lve 5)]]]
def Yz:DSp:=fun ds M Q _=>∃(way:Nat) (x:Str) (lim:Opd),ds=[.int (way:Nat),.str x,lim.d,.int 5]∧∀M' r,Kp M M'→Fm M' (cnt way x lim) r→Q (.ref r) M'
noncomputable def lst6(way:Nat)(x:Str)(us:List T):List T:=if way=0 then [] else if way=1 then [.leaf .fin,.leaf (.sum x (.no 3) "+" (.no 4))] else if way=2 then [.leaf (.sum x (.nm x) "/" (.no 0))] else if way=3 then [.leaf (.sum "none9" (.no 7) "rest" (.nm "nought"))] else us
def Rn:DSp:=fun ds M Q _=>∃(way:Nat) (x:Str) (sp:Nat) (us:List T),ds=[.int (way:Nat),.str x,.ref sp]∧Fm M us sp∧∀M' r,Kp M M'→Fm M' (lst6 way x us) r→Q (.ref r) M'
noncomputable def wrap(k:Nat)(w:Bool)(us:List T):List T:=if w then [.home true (1000+(k:Int)) (us++[.leaf (.lve (1000+(k:Int)))])] else [.home false (1000+(k:Int)) us]
noncomputable def wrp:Nat→List Bool→List T→List T
 | _,[],us=>us
 | k,w::ws,us=>wrp (k+1) ws (wrap k w us)
theorem Ep:∀(ws:List Bool) (k:Nat) (w:Bool) (us:List T),wrp k (ws++[w]) us=wrap (k+ws.length) w (wrp k ws us)
 | [],k,w,us=>rfl
 | v::ws,k,w,us=>by
  show wrp (k+1) (ws++[w]) (wrap k v us)=_
  rw[Ep ws (k+1) w,An,show k+1+ws.length=k+(ws.length+1) by omega]
  rfl
def V1:DSp:=fun ds M Q _=>∃(r cell many:Nat) (us:List T),ds=[.ref r,.int (cell:Nat),.int (many:Nat)]∧Fm M us r∧us.length≤100∧many≤60∧∀(W:List Bool) M' r',W.length=many→Kp M M'→Fm M' (wrp 0 W us) r'→Q (.ref r') M'
section
variable{K:Ab}{Γ:List DSp}{G:List D}
theorem Eh:∀ds M Q Z,Yz ds M Q Z→tss ⟨K,Γ,G⟩ noX b_Lcounting {nx:=fun _ M=>Q .non M,rt:=Q} (start0 V3 ds) M:=by
 rintro ds M Q Z ⟨way,x,lim,rfl,q⟩
 delta b_Lcounting V3
 walk_at "ev"
 refine⟨Z0 (by decide),?_⟩
 walk_at "ev"
 have grow:∀M':Z3,RT (Al M') M' (.leaf (.sum x (.nm x) "+" (.no 1))) (.tup [.str "sum",.str x,.str x,.str "+",.int 1]):=fun M'=>RT.leaf (l:= .sum x (.nm x) "+" (.no 1)) rfl rfl
 by_cases w0:way=0
 ·rw[if_pos (by omega)]
  try walk_at "ev"
  refine⟨Z0 (by decide),Z0 (by decide),Z0 (by decide),Z0 (by decide),?_⟩
  have f1:Fm (M++[Cell.lst [D.tup [D.str "again",D.int 5]]]) [.leaf (.agn 5)] M.length:=Fm.new (RTs.one (RT.leaf (l:= .agn 5) rfl rfl))
  have k1:Kp M (M++[Cell.lst [D.tup [D.str "again",D.int 5]]]):=Ks.new _ _
  generalize M++[Cell.lst [D.tup [D.str "again",D.int 5]]]=M1 at f1 k1
  have c1:RT (Al (M1++[Cell.lst []])) (M1++[Cell.lst []]) (.cho (.nm x) "<" lim [.leaf (.agn 5)] []) _:=RT.cho (a:= .nm x) (s:="<") (b:=lim) (f1.kp (Ks.new _ _)) (Fm.new RTs.nil)
  have k2:Kp M (M1++[Cell.lst []]):=k1.app _
  generalize M1++[Cell.lst []]=M2 at c1 k2
  walk_at "ev"
  refine⟨Z0 (by decide),Z0 (by decide),Z0 (by decide),Z0 (by decide),?_⟩
  refine q _ _ ((k2.app _).app _) ?_
  unfold cnt
  rw[if_pos w0]
  exact Fm.home (Fm.new (RTs.cons (grow _) (RTs.cons c1 (RTs.one (RT.leaf (l:= .lve 5) rfl rfl))))) true 5
 rw[if_neg (by omega)]
 try walk_at "ev"
 try delta Sj
 try walk_at "ev"
 by_cases w1:way=1
 ·rw[if_pos (by omega)]
  try walk_at "ev"
  refine⟨Z0 (by decide),Z0 (by decide),Z0 (by decide),Z0 (by decide),?_⟩
  have f1:Fm (M++[Cell.lst []]) [] M.length:=Fm.new RTs.nil
  have k1:Kp M (M++[Cell.lst []]):=Ks.new _ _
  generalize M++[Cell.lst []]=M1 at f1 k1
  have c1:RT (Al (M1++[Cell.lst [D.tup [D.str "leave",D.int 5]]])) (M1++[Cell.lst [D.tup [D.str "leave",D.int 5]]]) (.cho (.nm x) "<" lim [] [.leaf (.lve 5)]) _:=RT.cho (a:= .nm x) (s:="<") (b:=lim) (f1.kp (Ks.new _ _)) (Fm.new (RTs.one (RT.leaf (l:= .lve 5) rfl rfl)))
  have k2:Kp M (M1++[Cell.lst [D.tup [D.str "leave",D.int 5]]]):=k1.app _
  generalize M1++[Cell.lst [D.tup [D.str "leave",D.int 5]]]=M2 at c1 k2
  walk_at "ev"
  refine⟨Z0 (by decide),Z0 (by decide),Z0 (by decide),?_⟩
  refine q _ _ ((k2.app _).app _) ?_
  unfold cnt
  rw[if_neg w0,if_pos w1]
  exact Fm.home (Fm.new (RTs.cons (grow _) (RTs.one c1))) true 5
 rw[if_neg (by omega)]
 try walk_at "ev"
 try delta So
 try walk_at "ev"
 refine⟨Z0 (by decide),Z0 (by decide),Z0 (by decide),Z0 (by decide),?_⟩
 have f1:Fm (M++[Cell.lst [D.tup [D.str "leave",D.int 6]]]) [.leaf (.lve 6)] M.length:=Fm.new (RTs.one (RT.leaf (l:= .lve 6) rfl rfl))
 have k1:Kp M (M++[Cell.lst [D.tup [D.str "leave",D.int 6]]]):=Ks.new _ _
 rw[show(5:Int)+1=6 from rfl]
 generalize M++[Cell.lst [D.tup [D.str "leave",D.int 6]]]=M1 at f1 k1
 have c1:RT (Al (M1++[Cell.lst []])) (M1++[Cell.lst []]) (.cho (.nm x) "<" lim [.leaf (.lve 6)] []) _:=RT.cho (a:= .nm x) (s:="<") (b:=lim) (f1.kp (Ks.new _ _)) (Fm.new RTs.nil)
 have k2:Kp M (M1++[Cell.lst []]):=k1.app _
 generalize M1++[Cell.lst []]=M2 at c1 k2
 walk_at "ev"
 rw[show(5:Int)+1=6 from rfl]
 refine⟨Z0 (by decide),Z0 (by decide),Z0 (by decide),Z0 (by decide),Z0 (by decide),Z0 (by decide),?_⟩
 refine q _ _ (((k2.app _).app _).app _) ?_
 unfold cnt
 rw[if_neg w0,if_neg w1]
 exact Fm.home (Fm.home (Fm.new (RTs.cons (grow _) (RTs.cons c1 (RTs.one (RT.leaf (l:= .lve 5) rfl rfl))))) false 6) true 5
theorem Zu6:∀ds M Q Z,Rn ds M Q Z→tss ⟨K,Γ,G⟩ noX b_Llast {nx:=fun _ M=>Q .non M,rt:=Q} (start0 Nr ds) M:=by
 rintro ds M Q Z ⟨way,x,sp,us,rfl,hu,q⟩
 delta b_Llast Nr
 walk_at "ev"
 by_cases w0:way=0
 ·rw[if_pos (by omega)]
  try walk_at "ev"
  exact⟨Z0 (by decide),q _ _ (Ks.new _ _) (by unfold lst6;rw[if_pos w0];exact Fm.new RTs.nil)⟩
 rw[if_neg (by omega)]
 try walk_at "ev"
 try delta Je
 try walk_at "ev"
 by_cases w1:way=1
 ·rw[if_pos (by omega)]
  try walk_at "ev"
  exact⟨Z0 (by decide),Z0 (by decide),Z0 (by decide),q _ _ (Ks.new _ _) (by unfold lst6;rw[if_neg w0,if_pos w1];exact Fm.new (RTs.cons (RT.leaf (l:= .fin) rfl rfl) (RTs.one (RT.leaf (l:= .sum x (.no 3) "+" (.no 4)) rfl rfl))))⟩
 rw[if_neg (by omega)]
 try walk_at "ev"
 try delta Gg
 try walk_at "ev"
 by_cases w2:way=2
 ·rw[if_pos (by omega)]
  try walk_at "ev"
  exact⟨Z0 (by decide),Z0 (by decide),q _ _ (Ks.new _ _) (by unfold lst6;rw[if_neg w0,if_neg w1,if_pos w2];exact Fm.new (RTs.one (RT.leaf (l:= .sum x (.nm x) "/" (.no 0)) rfl rfl)))⟩
 rw[if_neg (by omega)]
 try walk_at "ev"
 try delta Fa
 try walk_at "ev"
 by_cases w3:way=3
 ·rw[if_pos (by omega)]
  try walk_at "ev"
  exact⟨Z0 (by decide),Z0 (by decide),q _ _ (Ks.new _ _) (by unfold lst6;rw[if_neg w0,if_neg w1,if_neg w2,if_pos w3];exact Fm.new (RTs.one (RT.leaf (l:= .sum "none9" (.no 7) "rest" (.nm "nought")) rfl rfl)))⟩
 rw[if_neg (by omega)]
 try walk_at "ev"
 try delta Jp
 try walk_at "ev"
 exact q _ _ (Ks.refl _) (by unfold lst6;rw[if_neg w0,if_neg w1,if_neg w2,if_neg w3];exact hu)
theorem Zo9(k:Nat)(w:Bool)(us:List T):(wrap k w us).length=1:=by unfold wrap;split<;>rfl
theorem Z76:∀ds M Q Z,V1 ds M Q Z→tss ⟨K,Γ,G⟩ noX b_Lwithin {nx:=fun _ M=>Q .non M,rt:=Q} (start0 Sh ds) M:=by
 rintro ds M Q Z ⟨r,cell,many,us,rfl,hu,hl,hm,q⟩
 delta b_Lwithin Sh
 walk_at "ev"
 refine⟨by omega,by omega,?_⟩
 rw[Io]
 refine J1 (fun i σ M'=>∃(r':Nat) (W:List Bool) (d:Option D),σ=[some (.ref r'),some (.int (cell:Nat)),some (.int (many:Nat)),d]∧W.length=i∧Kp M M'∧Fm M' (wrp 0 W us) r'∧(wrp 0 W us).length≤100) ⟨r,[],none,rfl,rfl,Ks.refl _,hu,hl⟩ ?_ ?_
 ·rintro i σ M' C hi ⟨r',W,d,rfl,hW,k,hf,hfl⟩ hC
  (delta Q9;simp only[Int.zero_add])
  walk_at "ev"
  have step:∀(w:Bool) (M2:Z3) (r2:Nat) (d:Option D),Kp M M2→Fm M2 (wrap i w (wrp 0 W us)) r2→C [some (.ref r2),some (.int (cell:Nat)),some (.int (many:Nat)),d] M2:=by
   intro w M2 r2 d k2 f2
   have e:wrp 0 (W++[w]) us=wrap i w (wrp 0 W us):=by rw[Ep,Nat.zero_add,hW]
   exact hC _ _ ⟨r2,W++[w],d,rfl,by rw[Ac,Am,hW],k2,by rw[e];exact f2,by rw[e,Zo9];omega⟩
  have hp:(0:Int)<1+(i:Int) * (i:Int):=by have:0≤(i:Int) * (i:Int):=Int.mul_nonneg (by omega) (by omega);omega
  have hb:1+(i:Int) * (i:Int)≤1000000:=by have:(i:Int) * (i:Int)≤60 * 60:=Int.mul_le_mul (by omega) (by omega) (by omega) (by omega);omega
  refine⟨mulL (by omega) (by omega),Yi hp (by omega),?_⟩
  try walk_at "ev"
  rw[qd hp,qm (by decide)]
  split
  ·try walk_at "ev"
   refine⟨Z0 (by decide),Z0 (by decide),step false _ _ _ (k.app _) ?_⟩
   exact Fm.home hf false _
  ·try walk_at "ev"
   obtain⟨ds,e1,e2⟩:=hf.get
   have f2:Fm (M'++[Cell.lst [D.tup [D.str "leave",D.int (1000+(i:Int))]]]) [.leaf (.lve (1000+(i:Int)))] M'.length:=Fm.new (RTs.one (RT.leaf (l:= .lve (1000+(i:Int))) rfl rfl))
   refine⟨Z0 (by decide),Z0 (by decide),_,_,Zp e1,Zd _ _ [],Z0 (by rw[Am];omega),Z0 (by decide),Z0 (by decide),step true _ _ _ (((k.app _).app _).app _) ?_⟩
   exact Fm.home ((hf.kp (Ks.new _ _)).add f2 (Zp e1) (Zd _ _ [])) true _
 ·rintro σ M' ⟨r',W,d,rfl,hW,k,hf,hfl⟩
  delta Pd
  walk_at "ev"
  exact q W _ _ hW k hf
end
noncomputable def wdS(w:Bool):Str:=if w then "round" else "part"
noncomputable def nstW:Nat→List Bool→List T→List T
 | _,[],b=>b
 | i,w::ws,b=>[.home w (100+(i:Int)) (nstW (i+1) ws b)]
def SpOk(W:List Bool)(b:List T):Prop:=W[0]?=some true∧(b=[]∨(∃j:Nat,W[j]?=some true∧b=[.leaf (.agn (100+(j:Int)))])∨∃j:Nat,0<j∧j<W.length∧b=[.leaf (.lve (100+(j:Int)))])
def Sb:DSp:=fun ds M Q _=>∃cell many:Nat,ds=[.int (cell:Nat),.int (many:Nat)]∧many≤40∧∀(W:List Bool) (b:List T) M' r,SpOk W b→W.length≤50→Kp M M'→Fm M' (nstW 0 W b) r→Q (.ref r) M'
section
variable{K:Ab}{Γ:List DSp}{G:List D}
theorem Yd3{M M0:Z3}{Q:DK}{cell many wr f:Nat}{W:List Bool}{b:List T}{d3 d5:Option D}(hm:many≤40)(hW:W.length=many+1)(hw:Zo M wr=some (W.map fun w=>D.str (wdS w)))(hf:Fm M b f)(k0:Kp M0 M)(q:∀M' r,Kp M0 M'→Fm M' (nstW 0 W b) r→Q (.ref r) M'):
  tss ⟨K,Γ,G⟩ noX Se {nx:=fun _ M=>Q .non M,rt:=Q} [some (.int (cell:Nat)),some (.int (many:Nat)),some (.ref wr),d3,some (.ref f),d5] M:=by
 delta Se
 walk_at "ev"
 refine⟨(many:Int),-1,rfl,rfl,⟨by omega,by omega,by omega,by omega⟩,?_⟩
 have hn:((many:Int) - -1).toNat=many+1:=by omega
 rw[hn]
 have dl:(Bw (many:Int) (many+1)).length=many+1:=by unfold Bw;simp
 refine Tt (fun i σ M'=>∃(f':Nat) (d:Option D),σ=[some (.int (cell:Nat)),some (.int (many:Nat)),some (.ref wr),d3,some (.ref f'),d]∧Kp M M'∧Fm M' (nstW (many+1 - i) (W.drop (many+1 - i)) b) f') ⟨f,d5,rfl,Ks.refl _,?_⟩ (fun _ _ _ _ _=>trivial) ?_ ?_
 ·rw[Nat.sub_zero,←hW,List.drop_length];exact hf
 ·rintro i d σ M' C hd ⟨f',d',rfl,k,hf'⟩ hC
  have hi:i<many+1:=by have:=(Af.mp hd).1;rwa[dl] at this
  have hd':d= .int ((many - i:Nat):Int):=by
   unfold Bw at hd
   rw[Ax,List.getElem?_range hi] at hd
   cases hd
   show D.int ((many:Int) - (i:Int))=_
   rw[show(many:Int) - (i:Int)=((many - i:Nat):Int) by omega]
  subst hd'
  rw[tg_one]
  delta Ff
  walk_at "ev"
  have hk:many - i<W.length:=by omega
  refine ix_l (k.L hw) (by rw[Ax,Ai hk];rfl) ?_
  refine⟨Z0 (by decide),Z0 (by decide),hC _ _ ⟨_,_,rfl,k.app _,?_⟩⟩
  rw[show many+1 - (i+1)=many - i by omega,Hn hk]
  have e:many - i+1=many+1 - i:=by omega
  show Fm _ [.home W[many - i] (100+((many - i:Nat):Int)) (nstW (many - i+1) (W.drop (many - i+1)) b)] _
  rw[e]
  exact Fm.home hf' _ _
 ·rintro σ M' ⟨f',d',rfl,k,hf'⟩
  rw[dl,Nat.sub_self,List.drop_zero] at hf'
  try delta Gy
  try walk_at "ev"
  exact q _ _ (k0.trans k) hf'
theorem Zz8:∀ds M Q Z,Sb ds M Q Z→tss ⟨K,Γ,G⟩ noX b_Lspin {nx:=fun _ M=>Q .non M,rt:=Q} (start0 Nc ds) M:=by
 rintro ds M Q Z ⟨cell,many,rfl,hm,q⟩
 delta b_Lspin Nc
 walk_at "ev"
 refine⟨Z0 (by decide),by omega,by omega,?_⟩
 rw[Io]
 simp only[capD,Dd,Ih,Option.bind_none,Dp,Kz,Ir,Option.join_some]
 have kz:Kp M (M++[Cell.lst [D.str "round"]]):=Ks.new _ _
 have rz:Zf (M++[Cell.lst [D.str "round"]]) M.length=some [D.str "round"]:=Zd _ _ []
 generalize M++[Cell.lst [D.str "round"]]=M1 at kz rz
 refine Q7 (fun i σ M'=>∃d0 V,σ=[d0,some (.int (cell:Nat))]∧V.length=i∧Kp M1 M'∧Zf M' M1.length=some (V.map fun w=>D.str (wdS w))) ⟨none,[],rfl,rfl,Ks.new _ _,Zd _ _ []⟩ (fun _ _ _ _ _=>trivial) ?_ ?_
 ·rintro i dx σ M' C hx ⟨d0,V,rfl,hV,k,hr⟩ hC
  have hi:i<many:=by
   have:=(Af.mp hx).1
   rwa[Xb] at this
  rw[Qj hi] at hx
  cases hx
  simp only[Int.zero_add]
  walk_at "ev"
  have hp:(0:Int)<1+(i:Int) * (i:Int):=by have:0≤(i:Int) * (i:Int):=Int.mul_nonneg (by omega) (by omega);omega
  have hb:1+(i:Int) * (i:Int)≤1000000:=by have:(i:Int) * (i:Int)≤60 * 60:=Int.mul_le_mul (by omega) (by omega) (by omega) (by omega);omega
  rw[qd hp,qm (by decide)]
  obtain⟨c,hc,ec⟩:=X4 ((cell:Int) / (1+(i:Int) * (i:Int))) (show 0<2 by decide)
  rw[show((2:Nat):Int)=2 from rfl] at ec
  rw[ec]
  refine⟨Z0 (by decide),mulL (by omega) (by omega),Yi hp (by omega),?_⟩
  obtain⟨w,hg⟩:∃w:Bool,([.str "round",.str "part"]:List D)[c]?=some (.str (wdS w)):=by
   match c,hc with
   | 0,_=>exact⟨true,rfl⟩
   | 1,_=>exact⟨false,rfl⟩
  refine ix_l (Yr _ _ []) hg ⟨_,Zp hr,Z6 (by rw[Ah];omega),hC _ _ ⟨_,V++[w],rfl,by rw[Ac,Am,hV],(k.app _).set (.inr (Nat.le_refl _)),?_⟩⟩
  rw[Wx (Ys (Z2 (Zp hr))),Az]
  rfl
 ·rintro σ M2 ⟨d0,V,rfl,hV,k,hr⟩
  rw[Xb] at hV
  try walk_at "ev"
  refine⟨_,_,k.W rz,hr,Z0 (by rw[Ah,Am];omega),?_⟩
  have k3:Kp M (M2++[Cell.lst ([D.str "round"]++V.map fun w=>D.str (wdS w))]):=(kz.trans k).app _
  have r3:Zo (M2++[Cell.lst ([D.str "round"]++V.map fun w=>D.str (wdS w))]) M2.length=some ((true::V).map fun w=>D.str (wdS w)):=Yr _ _ []
  have hW:(true::V).length=many+1:=by rw[An,hV]
  have hW0:(true::V)[0]?=some true:=rfl
  generalize M2++[Cell.lst ([D.str "round"]++V.map fun w=>D.str (wdS w))]=M3 at k3 r3
  generalize M2.length=wr at r3
  generalize true::V=W at r3 hW hW0
  walk_at "ev"
  refine Y7 r3 ⟨by omega,by rw[Ah];omega,?_⟩
  rw[Ah,Io]
  simp only[capD,Dd,Ih,Option.bind_none,Dp,Kz,Ir,Option.join_some]
  refine Q7 (fun i σ M'=>∃d0 R,σ=[d0,some (.ref wr)]∧M'=M3++[.lst (natD R)]∧(∀j∈R,W[j]?=some true)∧R.length≤i∧(0<i→0<R.length)) ⟨none,[],rfl,rfl,by simp,Nat.le_refl _,fun h=>absurd h (Nat.lt_irrefl _)⟩ (fun _ _ _ _ _=>trivial) ?_ ?_
  ·rintro i dx σ M' C hx ⟨d0,R,rfl,rfl,h1,h2,h3⟩ hC
   have hi:i<W.length:=by
    have:=(Af.mp hx).1
    rwa[Xb] at this
   rw[Qj hi] at hx
   cases hx
   simp only[Int.zero_add]
   walk_at "ev"
   refine ix_l (Y6 r3) (by rw[Ax,Ai hi];rfl) ?_
   try walk_at "ev"
   cases e:W[i] with
   | true=>
    rw[if_pos (show wdS true="round" from rfl)]
    refine⟨_,Zd _ _ [],Z6 (by rw[Q0];omega),hC _ _ ⟨_,R++[i],rfl,by rw[Xl,Zl0];rfl,?_,by rw[Ac,Am];omega,fun _=>by rw[Ac,Am];omega⟩⟩
    intro j hj
    rcases Ho.mp hj with hj | hj
    ·exact h1 j hj
    ·rw[Db] at hj
     subst hj
     rw[Ai hi,e]
   | false=>
    rw[if_neg (show ¬wdS false="round" by decide+kernel)]
    refine hC _ _ ⟨_,R,rfl,rfl,h1,by omega,fun _=>h3 ?_⟩
    rcases Nat.eq_zero_or_pos i with rfl | hp
    ·rw[Ai hi,e] at hW0
     cases hW0
    ·exact hp
  ·rintro σ M' ⟨d0,R,rfl,rfl,h1,h2,h3⟩
   rw[Xb] at h2 h3
   have hR:=h3 (by omega)
   have k4:Kp M (M3++[.lst (natD R)]):=k3.app _
   have r4:Zo (M3++[.lst (natD R)]) M3.length=some (natD R):=Yr _ _ []
   have w4:Zo (M3++[.lst (natD R)]) wr=some (W.map fun w=>D.str (wdS w)):=Y6 r3
   generalize M3++[.lst (natD R)]=M4 at k4 r4 w4
   generalize M3.length=rr at r4
   try walk_at "ev"
   refine⟨Z0 (by decide),?_⟩
   have k5:Kp M (M4++[Cell.lst []]):=k4.app _
   have f5:Fm (M4++[Cell.lst []]) [] M4.length:=Fm.new RTs.nil
   have r5:Zo (M4++[Cell.lst []]) rr=some (natD R):=Y6 r4
   have w5:Zo (M4++[Cell.lst []]) wr=some (W.map fun w=>D.str (wdS w)):=Y6 w4
   generalize M4++[Cell.lst []]=M5 at k5 f5 r5 w5
   generalize M4.length=f at f5
   walk_at "ev"
   rw[qm (by decide)]
   have fin:∀(M6:Z3) (f6:Nat) (b:List T) (d3 d5:Option D),Kp M M6→Kp M5 M6→Fm M6 b f6→SpOk W b→tss ⟨K,Γ,G⟩ noX Se {nx:=fun _ M=>Q .non M,rt:=Q} [some (.int (cell:Nat)),some (.int (many:Nat)),some (.ref wr),d3,some (.ref f6),d5] M6:=by
    intro M6 f6 b d3 d5 k6 k56 hf sp
    exact Yd3 hm hW (k56.L w5) hf k6 fun M' r k' hf'=>q W b M' r sp (by omega) k' hf'
   by_cases c1:(cell:Int) % 3=1
   ·rw[if_pos c1]
    try walk_at "ev"
    refine⟨Yi (by decide) (by decide),Y7 r5 ?_⟩
    rw[Q0,qd (by decide)]
    try walk_at "ev"
    obtain⟨c,hc,ec⟩:=X4 ((cell:Int) / 3) hR
    rw[qm (by omega),ec]
    refine⟨by omega,ix_l r5 (Cb (Ai hc)) ⟨Z0 (by decide),Z0 (by decide),?_⟩⟩
    have fb:Fm (M5++[Cell.lst [D.tup [D.str "again",D.int (100+(R[c]:Int))]]]) [.leaf (.agn (100+(R[c]:Int)))] M5.length:=Fm.new (RTs.one (RT.leaf (l:= .agn (100+(R[c]:Int))) rfl rfl))
    have k6:Kp M5 (M5++[Cell.lst [D.tup [D.str "again",D.int (100+(R[c]:Int))]]]):=Ks.new _ _
    have sp:SpOk W [.leaf (.agn (100+(R[c]:Int)))]:=⟨hW0,.inr (.inl ⟨R[c],h1 _ (Ht hc),rfl⟩)⟩
    generalize M5++[Cell.lst [D.tup [D.str "again",D.int (100+(R[c]:Int))]]]=M6 at fb k6
    try walk_at "ev"
    try delta Qc
    try walk_at "ev"
    rw[qm (by decide),if_neg (by omega)]
    try walk_at "ev"
    try rw[if_neg (by omega)]
    exact fin _ _ _ _ _ (k5.trans k6) k6 fb sp
   rw[if_neg c1]
   try walk_at "ev"
   try delta Qc
   try walk_at "ev"
   rw[qm (by decide)]
   by_cases c2:(cell:Int) % 3=2
   ·rw[if_pos c2]
    try walk_at "ev"
    by_cases m0:0<many
    ·rw[if_pos (by omega)]
     try walk_at "ev"
     obtain⟨c,hc,ec⟩:=X4 ((cell:Int) / 3) m0
     rw[qd (by decide),qm (by omega),ec]
     refine⟨Yi (by decide) (by decide),by omega,Z0 (by decide),Z0 (by decide),?_⟩
     have e100:(101:Int)+(c:Int)=100+((1+c:Nat):Int):=by omega
     rw[e100]
     have fb:Fm (M5++[Cell.lst [D.tup [D.str "leave",D.int (100+((1+c:Nat):Int))]]]) [.leaf (.lve (100+((1+c:Nat):Int)))] M5.length:=Fm.new (RTs.one (RT.leaf (l:= .lve (100+((1+c:Nat):Int))) rfl rfl))
     have k6:Kp M5 (M5++[Cell.lst [D.tup [D.str "leave",D.int (100+((1+c:Nat):Int))]]]):=Ks.new _ _
     have sp:SpOk W [.leaf (.lve (100+((1+c:Nat):Int)))]:=⟨hW0,.inr (.inr ⟨1+c,by omega,by omega,rfl⟩)⟩
     try walk_at "ev"
     exact fin _ _ _ _ _ (k5.trans k6) k6 fb sp
    ·rw[if_neg (by omega)]
     try walk_at "ev"
     exact fin _ _ _ _ _ k5 (Ks.refl _) f5 ⟨hW0,.inl rfl⟩
   ·rw[if_neg c2]
    try walk_at "ev"
    try rw[if_neg c2]
    exact fin _ _ _ _ _ k5 (Ks.refl _) f5 ⟨hW0,.inl rfl⟩
end
noncomputable def orF(v f:Lb→Option Nat):Lb→Option Nat:=fun l=>(v l).or (f l)
theorem Tu(v f:Lb→Option Nat)(a:Lb)(n:Nat):up (orF v f) a n=orF (up v a n) f:=by
 funext l
 unfold up orF
 dsimp only
 split<;>rfl
theorem Eu{v f:Lb→Option Nat}{a:Lb}{n:Nat}(h:v a=none)(g:f a=none):up0 (orF v f) a n=orF (up v a n) f:=by
 unfold up0
 rw[if_neg,Tu]
 unfold orF
 rw[h,g]
 exact Bool.false_ne_true
theorem Zh3{v f:Lb→Option Nat}{a:Lb}{n:Nat}(h:(v a).isSome=true):up0 (orF v f) a n=orF v f:=by
 unfold up0
 rw[if_pos]
 unfold orF
 cases e:v a with
 | none=>rw[e] at h;cases h
 | some x=>rfl
theorem Oy(f:Lb→Option Nat)(a:Lb)(n:Nat):up f a n a=some n:=if_pos rfl
theorem Sz{f:Lb→Option Nat}{a l:Lb}{n:Nat}(h:l≠a):up f a n l=f l:=if_neg h
theorem Xo(c:CS)(l:Ln)(ls:List Ln):crun c (l::ls)=(cst c l).bind fun c'=>crun c' ls:=rfl
theorem Tg(c:CS):crun c []=some c:=rfl
noncomputable def v0:Lb→Option Nat:=fun _=>none
noncomputable def vC(way:Nat):Lb→Option Nat:=if way=0 then up (up (up (up (up v0 (.agn,5) 0) (.yes,1) 3) (.no,1) 4) (.beh,1) 4) (.lve,5) 6
 else if way=1 then up (up (up (up (up v0 (.agn,5) 0) (.yes,1) 3) (.no,1) 4) (.beh,1) 5) (.lve,5) 6
 else up (up (up (up (up (up (up v0 (.agn,5) 0) (.agn,6) 0) (.yes,1) 3) (.no,1) 4) (.beh,1) 4) (.lve,6) 5) (.lve,5) 6
noncomputable def C6(way:Nat)(x:Str)(lim:Opd):List Pr:=[.sum x (.nm x) "+" (.no 1),.test (.nm x) "<" lim (.yes,1),.jump (.no,1),.jump (if way=0 then(.agn,5) else if way=1 then(.beh,1) else(.lve,6)),.jump (.lve,5),.jump (.agn,5)]
theorem Zv1(way:Nat)(x:Str)(lim:Opd)(f:Lb→Option Nat)(o:List Oe)(hf:∀n,f (.no,n)=none):crun ⟨[],orF v0 f,o⟩ (fls (cnt way x lim))=some ⟨C6 way x lim,orF (vC way) f,o⟩:=by
 unfold cnt vC C6
 by_cases w0:way=0
 ·simp only[if_pos w0]
  show crun _ [.rnd 5,.sum x (.nm x) "+" (.no 1),.cond (.nm x) "<" lim,.agn 5,.don,.lve 5,.don]=_
  simp only[Xo,Tg,cst,Dp,Hj,Hl,An,Hq,Nat.zero_add,Nat.reduceAdd,Tu]
  have e:up0 (orF (up (up v0 (.agn,5) 0) (.yes,((1:Nat):Int)) 3) f) (.no,((1:Nat):Int)) 4=orF (up (up (up v0 (.agn,5) 0) (.yes,((1:Nat):Int)) 3) (.no,((1:Nat):Int)) 4) f:=Eu rfl (hf _)
  rw[e,Tu]
  simp only[Xo,Tg,cst,Dp,Hj,Hl,An,Hq,Nat.zero_add,Nat.reduceAdd,Tu]
  rfl
 by_cases w1:way=1
 ·simp only[if_neg w0,if_pos w1]
  show crun _ [.rnd 5,.sum x (.nm x) "+" (.no 1),.cond (.nm x) "<" lim,.els,.lve 5,.don,.don]=_
  simp only[Xo,Tg,cst,Dp,Hj,Hl,An,Hq,Nat.zero_add,Nat.reduceAdd,Tu]
  have e:up0 (orF (up (up (up v0 (.agn,5) 0) (.yes,((1:Nat):Int)) 3) (.no,((1:Nat):Int)) 4) f) (.no,((1:Nat):Int)) 5=orF (up (up (up v0 (.agn,5) 0) (.yes,((1:Nat):Int)) 3) (.no,((1:Nat):Int)) 4) f:=Zh3 rfl
  rw[e,Tu]
  simp only[Xo,Tg,cst,Dp,Hj,Hl,An,Hq,Nat.zero_add,Nat.reduceAdd,Tu]
  rfl
 ·simp only[if_neg w0,if_neg w1]
  show crun _ [.rnd 5,.prt 6,.sum x (.nm x) "+" (.no 1),.cond (.nm x) "<" lim,.lve 6,.don,.lve 5,.don,.don]=_
  simp only[Xo,Tg,cst,Dp,Hj,Hl,An,Hq,Nat.zero_add,Nat.reduceAdd,Tu]
  have e:up0 (orF (up (up (up v0 (.agn,5) 0) (.agn,6) 0) (.yes,((1:Nat):Int)) 3) f) (.no,((1:Nat):Int)) 4=orF (up (up (up (up v0 (.agn,5) 0) (.agn,6) 0) (.yes,((1:Nat):Int)) 3) (.no,((1:Nat):Int)) 4) f:=Eu rfl (hf _)
  rw[e,Tu]
  simp only[Xo,Tg,cst,Dp,Hj,Hl,An,Hq,Nat.zero_add,Nat.reduceAdd,Tu]
  rfl
noncomputable def bjs:List T→List Pr
 | [.leaf (.agn n)]=>[.jump (.agn,n)]
 | [.leaf (.lve n)]=>[.jump (.lve,n)]
 | _=>[]
noncomputable def Jw:Nat→List Bool→List Pr
 | _,[]=>[]
 | i,w::ws=>Jw (i+1) ws++(if w then [.jump (.agn,100+(i:Int))] else [])
noncomputable def gS:Nat→List Bool→(Lb→Option Nat)→Nat→Nat→Lb→Option Nat
 | _,[],v,_,_=>v
 | i,w::ws,v,n,m=>up (gS (i+1) ws (up v (.agn,100+(i:Int)) n) n m) (.lve,100+(i:Int)) (n+m+(Jw i (w::ws)).length)
theorem Zl4{W:List Bool}{b:List T}(h:SpOk W b)(t:List Pr)(f:Lb→Option Nat)(o:List Oe):crun ⟨t,f,o⟩ (fls b)=some ⟨t++bjs b,f,o⟩:=by
 rcases h.2 with rfl | ⟨j,_,rfl⟩ | ⟨j,_,_,rfl⟩
 ·rw[show bjs []=[] from rfl,Dn];rfl
 ·rfl
 ·rfl
theorem Zd6{b:List T}(hb:∀(t:List Pr) (f:Lb→Option Nat) (o:List Oe),crun ⟨t,f,o⟩ (fls b)=some ⟨t++bjs b,f,o⟩):∀(ws:List Bool) (i:Nat) (t:List Pr) (v f:Lb→Option Nat) (o:List Oe),crun ⟨t,orF v f,o⟩ (fls (nstW i ws b))=some ⟨t++bjs b++Jw i ws,orF (gS i ws v t.length (bjs b).length) f,o⟩
 | [],i,t,v,f,o=>by
  show crun _ (fls b)=some ⟨t++bjs b++[],_,_⟩
  rw[hb,Dn]
  rfl
 | w::ws,i,t,v,f,o=>by
  show crun _ (fls [.home w (100+(i:Int)) (nstW (i+1) ws b)])=_
  rw[Xj,Vp,Dn,Vj,Xo]
  have e:∀w:Bool,cst ⟨t,orF v f,o⟩ (if w then .rnd (100+(i:Int)) else .prt (100+(i:Int)))=some ⟨t,orF (up v (.agn,100+(i:Int)) t.length) f,.home w (100+(i:Int))::o⟩:=by
   intro w
   cases w<;>(simp only[Bool.false_eq_true,if_false,if_true];rw[←Tu];rfl)
  rw[e,Dp,Q5,Zd6 hb ws (i+1),Dp]
  cases w with
  | true=>
   show some (⟨_,_,_⟩:CS)=some ⟨_,_,_⟩
   rw[Tu]
   congr 2
   ·show _=t++bjs b++(Jw (i+1) ws++[.jump (.agn,100+(i:Int))])
    rw[←Dg]
   ·show orF (up _ _ ((t++bjs b++Jw (i+1) ws).length+1)) f=orF (up _ _ (t.length+(bjs b).length+(Jw (i+1) ws++[Pr.jump (.agn,100+(i:Int))]).length)) f
    simp only[Ac,Am,Nat.add_assoc]
  | false=>
   show some (⟨_,_,_⟩:CS)=some ⟨_,_,_⟩
   rw[Tu]
   congr 2
   ·show _=t++bjs b++(Jw (i+1) ws++[])
    rw[Dn]
   ·show orF (up _ _ (t++bjs b++Jw (i+1) ws).length) f=orF (up _ _ (t.length+(bjs b).length+(Jw (i+1) ws++[]).length)) f
    rw[Dn]
    simp only[Ac]
theorem Zs7(n m:Nat):∀(ws:List Bool) (i:Nat) (v:Lb→Option Nat) (j:Nat),i≤j→j<i+ws.length→gS i ws v n m (.agn,100+(j:Int))=some n
 | [],i,v,j,h1,h2=>by rw[Hq] at h2;omega
 | w::ws,i,v,j,h1,h2=>by
  show up (gS (i+1) ws (up v (.agn,100+(i:Int)) n) n m) (.lve,100+(i:Int)) _ _=_
  rw[Sz (by intro z;cases z)]
  rw[An] at h2
  by_cases e:j=i
  ·subst e
   have:∀(ws:List Bool) (k:Nat) (u:Lb→Option Nat),j<k→u (.agn,100+(j:Int))=some n→gS k ws u n m (.agn,100+(j:Int))=some n:=by
    intro ws
    induction ws with
    | nil=>intro k u _ hu;exact hu
    | cons w ws ih=>
     intro k u hk hu
     show up (gS (k+1) ws (up u (.agn,100+(k:Int)) n) n m) (.lve,100+(k:Int)) _ _=_
     rw[Sz (by intro z;cases z)]
     refine ih (k+1) _ (by omega) ?_
     rw[Sz (by intro z;have:=(Prod.mk.inj z).2;omega)]
     exact hu
   exact this ws (j+1) _ (by omega) (Oy _ _ _)
  ·exact Zs7 n m ws (i+1) _ j (by omega) (by omega)
theorem Zq7(n m:Nat):∀(ws:List Bool) (i:Nat) (v:Lb→Option Nat) (j:Nat),i≤j→j<i+ws.length→∃k,gS i ws v n m (.lve,100+(j:Int))=some (n+m+k)∧k≤(Jw i ws).length∧(i<j→∀us,ws=true::us→k< (Jw i ws).length)
 | [],i,v,j,h1,h2=>by rw[Hq] at h2;omega
 | w::ws,i,v,j,h1,h2=>by
  rw[An] at h2
  by_cases e:j=i
  ·subst e
   exact⟨(Jw j (w::ws)).length,Oy _ _ _,Nat.le_refl _,fun h=>absurd h (Nat.lt_irrefl _)⟩
  ·obtain⟨k,h3,h4,_⟩:=Zq7 n m ws (i+1) (up v (.agn,100+(i:Int)) n) j (by omega) (by omega)
   have hl:(Jw i (w::ws)).length=(Jw (i+1) ws).length+(if w then 1 else 0):=by
    show(Jw (i+1) ws++(if w then [Pr.jump (.agn,100+(i:Int))] else [])).length=_
    rw[Ac]
    cases w<;>rfl
   refine⟨k,?_,by rw[hl];omega,fun _ us e=>?_⟩
   ·show up (gS (i+1) ws (up v (.agn,100+(i:Int)) n) n m) (.lve,100+(i:Int)) _ _=_
    rw[Sz (by intro z;have:=(Prod.mk.inj z).2;omega)]
    exact h3
   ·cases e
    rw[hl,if_pos rfl]
    omega
theorem E6(n m:Nat):∀(ws:List Bool) (i:Nat) (v:Lb→Option Nat) (l:Lb),(l.2<100+(i:Int)∨100+((i+ws.length:Nat):Int)≤l.2)→gS i ws v n m l=v l
 | [],i,v,l,_=>rfl
 | w::ws,i,v,l,h=>by
  rw[An] at h
  show up (gS (i+1) ws (up v (.agn,100+(i:Int)) n) n m) (.lve,100+(i:Int)) _ _=_
  rw[Sz (by rintro rfl;dsimp only at h;omega),E6 n m ws (i+1) _ l (by omega),Sz (by rintro rfl;dsimp only at h;omega)]
def Bk(us:List T)(t:List Pr)(v:Lb→Option Nat):Prop:=∀f o,(∀n,f (.no,n)=none)→crun ⟨[],f,o⟩ (fls us)=some ⟨t,orF v f,o⟩
noncomputable def tw(k:Nat)(w:Bool):List Pr:=if w then [.jump (.lve,1000+(k:Int)),.jump (.agn,1000+(k:Int))] else []
noncomputable def vw(k:Nat)(w:Bool)(n:Nat)(v:Lb→Option Nat):Lb→Option Nat:=up (orF v (up v0 (.agn,1000+(k:Int)) 0)) (.lve,1000+(k:Int)) (n+(tw k w).length)
theorem Zr1(v f:Lb→Option Nat)(a:Lb)(n:Nat):orF v (up f a n)=orF (orF v (up v0 a n)) f:=by
 funext l
 unfold orF up v0
 try dsimp only
 cases v l with
 | some x=>rfl
 | none=>dsimp only[Option.or];split<;>rfl
theorem Bk.wrap{us:List T}{t:List Pr}{v:Lb→Option Nat}(h:Bk us t v)(k:Nat)(w:Bool):Bk (wrap k w us) (t++tw k w) (vw k w t.length v):=by
 intro f o hf
 have hf':∀n,up f (.agn,1000+(k:Int)) 0 (.no,n)=none:=fun n=>by rw[Sz (by intro z;cases z)];exact hf n
 unfold K53.wrap
 cases w with
 | true=>
  rw[if_pos rfl,Xj,Vp,Dn,Vj,if_pos rfl,Xo]
  show(crun ⟨[],up f (.agn,1000+(k:Int)) 0,.home true (1000+(k:Int))::o⟩ (fls (us++[.leaf (.lve (1000+(k:Int)))])++[.don]))=_
  rw[Wp,Dg,Q5,h _ _ hf',Dp]
  show some (⟨t++[.jump (.lve,1000+(k:Int))]++[.jump (.agn,1000+(k:Int))],up (orF v (up f (.agn,1000+(k:Int)) 0)) (.lve,1000+(k:Int)) ((t++[Pr.jump (.lve,1000+(k:Int))]).length+1),o⟩:CS)=_
  rw[Zr1,Tu,Dg,Ac]
  rfl
 | false=>
  rw[if_neg Bool.false_ne_true,Xj,Vp,Dn,Vj,if_neg Bool.false_ne_true,Xo]
  show(crun ⟨[],up f (.agn,1000+(k:Int)) 0,.home false (1000+(k:Int))::o⟩ (fls us++[.don]))=_
  rw[Q5,h _ _ hf',Dp]
  show some (⟨t,up (orF v (up f (.agn,1000+(k:Int)) 0)) (.lve,1000+(k:Int)) t.length,o⟩:CS)=some ⟨t++[],_,o⟩
  rw[Zr1,Tu,Dn]
  rfl
noncomputable def By:Nat→List Bool→List Pr
 | _,[]=>[]
 | k,w::ws=>tw k w++By (k+1) ws
noncomputable def Zv:Nat→List Bool→List Raw
 | _,[]=>[]
 | n,true::ws=> .jump (n+2):: .jump 0::Zv (n+2) ws
 | n,false::ws=>Zv n ws
theorem Z50:∀(ws:List Bool) (k:Nat) (us:List T) (t:List Pr) (v:Lb→Option Nat),Bk us t v→(∀l:Lb,1000+(k:Int)≤l.2→v l=none)→∃v',Bk (wrp k ws us) (t++By k ws) v'∧(∀l:Lb,l.2<1000+(k:Int)→v' l=v l)∧(By k ws).map (res v')=(Zv t.length ws).map some
 | [],k,us,t,v,h,hv=>⟨v,by rw[show By k []=[] from rfl,Dn];exact h,fun _ _=>rfl,rfl⟩
 | w::ws,k,us,t,v,h,hv=>by
  have hvk:∀l:Lb,l≠(.lve,1000+(k:Int))→l≠(.agn,1000+(k:Int))→vw k w t.length v l=v l:=by
   intro l h1 h2
   unfold vw
   rw[Sz h1]
   unfold orF
   rw[Sz h2]
   show(v l).or none=v l
   rw[Option.or_none]
  obtain⟨v',h1,h2,h3⟩:=Z50 ws (k+1) (K53.wrap k w us) (t++tw k w) (vw k w t.length v) (h.wrap k w) (fun l hl=>by
   rw[hvk l (by rintro rfl;dsimp only at hl;omega) (by rintro rfl;dsimp only at hl;omega)]
   exact hv l (by omega))
  refine⟨v',?_,fun l hl=>?_,?_⟩
  ·show Bk (wrp (k+1) ws (K53.wrap k w us)) (t++(tw k w++By (k+1) ws)) v'
   rw[←Dg]
   exact h1
  ·rw[h2 l (by omega),hvk l (by rintro rfl;dsimp only at hl;omega) (by rintro rfl;dsimp only at hl;omega)]
  ·show(tw k w++By (k+1) ws).map (res v')=_
   rw[Az,h3]
   cases w with
   | false=>
    show []++(Zv (t++tw k false).length ws).map some=(Zv t.length ws).map some
    rw[show tw k false=[] from rfl,Dn,Hj]
   | true=>
    have e1:v' (.lve,1000+(k:Int))=some (t.length+2):=by
     rw[h2 _ (by dsimp only;omega)]
     exact Oy _ _ _
    have e2:v' (.agn,1000+(k:Int))=some 0:=by
     rw[h2 _ (by dsimp only;omega)]
     unfold vw
     rw[Sz (by intro z;cases z)]
     unfold orF
     rw[hv _ (by dsimp only;omega),Oy]
     rfl
    show [(v' (.lve,1000+(k:Int))).map Raw.jump,(v' (.agn,1000+(k:Int))).map Raw.jump]++(Zv (t++tw k true).length ws).map some=(Raw.jump (t.length+2)::Raw.jump 0::Zv (t.length+2) ws).map some
    rw[e1,e2,Ac]
    rfl
noncomputable def R6(way:Nat)(x:Str)(lim:Opd):List Raw:=[.sum x (.nm x) "+" (.no 1),.test (.nm x) "<" lim 3,.jump 4,.jump (if way=0 then 0 else 5),.jump 6,.jump 0]
structure LastOk(wl:Nat)(x:Str)(Lr:List Raw):Prop where
 a:∀r∈Lr,(∃g,r= .jump g∧6≤g∧g<6+Lr.length)∨(∃y a s b,r= .sum y a s b)∨r= .fin
 len:Lr.length≤100
 e:(wl=0∧Lr=[])∨(wl=1∧Lr[0]?=some .fin)∨(wl=2∧Lr[0]?=some (.sum x (.nm x) "/" (.no 0)))∨(wl=3∧Lr[0]?=some (.sum "none9" (.no 7) "rest" (.nm "nought")))∨(3<wl∧0<Lr.length∧∀r∈Lr,∃g,r= .jump g)
theorem Yb6(way:Nat)(l:Lb)(h:7≤l.2):vC way l=none:=by
 unfold vC
 split
 ·repeat rw[Sz (by rintro rfl;dsimp only at h;omega)]
  rfl
 split
 ·repeat rw[Sz (by rintro rfl;dsimp only at h;omega)]
  rfl
 ·repeat rw[Sz (by rintro rfl;dsimp only at h;omega)]
  rfl
theorem Zp7(way:Nat)(x:Str)(lim:Opd){v:Lb→Option Nat}(h:∀l:Lb,l.2<100→v l=vC way l):(C6 way x lim).map (res v)=(R6 way x lim).map some:=by
 have a1:vC way (.yes,1)=some 3:=by
  unfold vC
  split
  ·rfl
  ·split<;>rfl
 have a2:vC way (.no,1)=some 4:=by
  unfold vC
  split
  ·rfl
  ·split<;>rfl
 have a3:vC way (if way=0 then(.agn,5) else if way=1 then(.beh,1) else(.lve,6))=some (if way=0 then 0 else 5):=by
  unfold vC
  by_cases w0:way=0
  ·simp only[if_pos w0];rfl
  by_cases w1:way=1
  ·simp only[if_neg w0,if_pos w1];rfl
  ·simp only[if_neg w0,if_neg w1];rfl
 have a4:vC way (.lve,5)=some 6:=by
  unfold vC
  split
  ·rfl
  ·split<;>rfl
 have a5:vC way (.agn,5)=some 0:=by
  unfold vC
  split
  ·rfl
  ·split<;>rfl
 have b3:v (if way=0 then(.agn,5) else if way=1 then(.beh,1) else(.lve,6))=some (if way=0 then 0 else 5):=by
  rw[h _ (by
   split
   ·decide
   ·split<;>decide)]
  exact a3
 show [some (Raw.sum x (.nm x) "+" (.no 1)),(v (.yes,1)).map _,(v (.no,1)).map _,(v (if way=0 then(.agn,5) else if way=1 then(.beh,1) else(.lve,6))).map _,(v (.lve,5)).map _,(v (.agn,5)).map _]=_
 rw[b3,h _ (by decide),h _ (by decide),h _ (by decide),h _ (by decide),a1,a2,a4,a5]
 rfl
theorem Zq8{v:Lb→Option Nat}{g:Nat}:∀(ws:List Bool) (i:Nat),(∀j,i≤j→j<i+ws.length→v (.agn,100+(j:Int))=some g)→(Jw i ws).map (res v)=(Df (Jw i ws).length (Raw.jump g)).map some
 | [],i,_=>rfl
 | w::ws,i,h=>by
  rw[An] at h
  show(Jw (i+1) ws++(if w then [Pr.jump (.agn,100+(i:Int))] else [])).map (res v)=(Df (Jw (i+1) ws++(if w then [Pr.jump (.agn,100+(i:Int))] else [])).length (Raw.jump g)).map some
  rw[Az,Ac,←List.replicate_append_replicate,Az,Zq8 ws (i+1) fun j h1 h2=>h j (by omega) (by omega)]
  congr 1
  cases w with
  | true=>
   show [(v (.agn,100+(i:Int))).map Raw.jump]=_
   rw[h i (Nat.le_refl _) (by omega)]
   rfl
  | false=>rfl
theorem Zs0:∀(ws:List Bool) (i:Nat),(Jw i ws).length≤ws.length
 | [],i=>Nat.le_refl _
 | w::ws,i=>by
  show(Jw (i+1) ws++(if w then [Pr.jump (.agn,100+(i:Int))] else [])).length≤_
  have:=Zs0 ws (i+1)
  rw[Ac,An]
  cases w
  ·show _+0≤_;omega
  ·show _+1≤_;omega
theorem Y70(way wl:Nat)(x:Str)(lim:Opd){W:List Bool}{b:List T}(sp:SpOk W b)(hW:W.length≤50):∃(Lp:List Pr) (v:Lb→Option Nat) (Lr:List Raw),Bk (cnt way x lim++lst6 wl x (nstW 0 W b)) (C6 way x lim++Lp) v∧(∀l:Lb,1000+((0:Nat):Int)≤l.2→v l=none)∧(∀v',(∀l:Lb,l.2<1000+((0:Nat):Int)→v' l=v l)→(C6 way x lim++Lp).map (res v')=(R6 way x lim++Lr).map some)∧Lp.length=Lr.length∧LastOk wl x Lr:=by
 have run:∀(us:List T) (Lp:List Pr) (v:Lb→Option Nat),(∀f o,crun ⟨C6 way x lim,orF (vC way) f,o⟩ (fls us)=some ⟨C6 way x lim++Lp,orF v f,o⟩)→Bk (cnt way x lim++us) (C6 way x lim++Lp) v:=by
  intro us Lp v h f o hf
  have e:f=orF v0 f:=by funext l;rfl
  conv=>lhs;rw[e]
  rw[Wp,Q5,Zv1 way x lim f o hf,Dp]
  exact h f o
 have far:∀l:Lb,1000+((0:Nat):Int)≤l.2→vC way l=none:=fun l hl=>Yb6 way l (by omega)
 have plain:∀(ls:List Ln) (Lp:List Pr) (Lr:List Raw),(∀t f o,crun ⟨t,f,o⟩ ls=some ⟨t++Lp,f,o⟩)→(∀v,Lp.map (res v)=Lr.map some)→lst6 wl x (nstW 0 W b)=ls.map .leaf→LastOk wl x Lr→∃(Lp:List Pr) (v:Lb→Option Nat) (Lr:List Raw),Bk (cnt way x lim++lst6 wl x (nstW 0 W b)) (C6 way x lim++Lp) v∧(∀l:Lb,1000+((0:Nat):Int)≤l.2→v l=none)∧(∀v',(∀l:Lb,l.2<1000+((0:Nat):Int)→v' l=v l)→(C6 way x lim++Lp).map (res v')=(R6 way x lim++Lr).map some)∧Lp.length=Lr.length∧LastOk wl x Lr:=by
  intro ls Lp Lr h1 h2 h3 h4
  have fl:fls (ls.map .leaf)=ls:=by
   clear h1 h3
   induction ls with
   | nil=>rfl
   | cons l ls ih=>rw[Dd,Xj,Z73,ih];rfl
  refine⟨Lp,vC way,Lr,?_,far,fun v' hv=>?_,?_,h4⟩
  ·rw[h3]
   exact run _ _ _ fun f o=>by rw[fl];exact h1 _ _ _
  ·rw[Az,Az,h2,Zp7 way x lim fun l hl=>hv l (by omega)]
  ·have:=congrArg List.length (h2 v0)
   rwa[Ah,Ah] at this
 by_cases w0:wl=0
 ·refine plain [] [] [] (fun t f o=>by rw[Dn];rfl) (fun _=>rfl) (by unfold lst6;rw[if_pos w0];rfl) ⟨(fun r hr=>by cases hr),by decide,.inl ⟨w0,rfl⟩⟩
 by_cases w1:wl=1
 ·refine plain [.fin,.sum x (.no 3) "+" (.no 4)] [.fin,.sum x (.no 3) "+" (.no 4)] [.fin,.sum x (.no 3) "+" (.no 4)] (fun t f o=>?_) (fun _=>rfl) (by unfold lst6;rw[if_neg w0,if_pos w1];rfl) ⟨fun r hr=>?_,by simp,.inr (.inl ⟨w1,rfl⟩)⟩
  ·show some (⟨t++[.fin]++[.sum x (.no 3) "+" (.no 4)],f,o⟩:CS)=_
   rw[Dg]
   rfl
  ·rcases Aw.mp hr with rfl | hr
   ·exact .inr (.inr rfl)
   ·rw[Db] at hr
    subst hr
    exact .inr (.inl ⟨_,_,_,_,rfl⟩)
 by_cases w2:wl=2
 ·refine plain [.sum x (.nm x) "/" (.no 0)] [.sum x (.nm x) "/" (.no 0)] [.sum x (.nm x) "/" (.no 0)] (fun t f o=>rfl) (fun _=>rfl) (by unfold lst6;rw[if_neg w0,if_neg w1,if_pos w2];rfl) ⟨fun r hr=>?_,by simp,.inr (.inr (.inl ⟨w2,rfl⟩))⟩
  rw[Db] at hr
  subst hr
  exact .inr (.inl ⟨_,_,_,_,rfl⟩)
 by_cases w3:wl=3
 ·refine plain [.sum "none9" (.no 7) "rest" (.nm "nought")] [.sum "none9" (.no 7) "rest" (.nm "nought")] [.sum "none9" (.no 7) "rest" (.nm "nought")] (fun t f o=>rfl) (fun _=>rfl) (by unfold lst6;rw[if_neg w0,if_neg w1,if_neg w2,if_pos w3];rfl) ⟨fun r hr=>?_,by simp,.inr (.inr (.inr (.inl ⟨w3,rfl⟩)))⟩
  rw[Db] at hr
  subst hr
  exact .inr (.inl ⟨_,_,_,_,rfl⟩)
 have e:lst6 wl x (nstW 0 W b)=nstW 0 W b:=by unfold lst6;rw[if_neg w0,if_neg w1,if_neg w2,if_neg w3]
 obtain⟨us,hus⟩:∃us,W=true::us:=by
  cases W with
  | nil=>cases sp.1
  | cons w us=>cases sp.1;exact⟨us,rfl⟩
 have jl:0< (Jw 0 W).length:=by
  rw[hus]
  show 0< (Jw 1 us++[Pr.jump (.agn,100+((0:Nat):Int))]).length
  rw[Ac,Am]
  omega
 have jl2:=Zs0 W 0
 have rn:∀f o,crun ⟨C6 way x lim,orF (vC way) f,o⟩ (fls (nstW 0 W b))=some ⟨C6 way x lim++(bjs b++Jw 0 W),orF (gS 0 W (vC way) 6 (bjs b).length) f,o⟩:=fun f o=>by
  rw[Zd6 (Zl4 sp) W 0,Dg]
  rfl
 have agn:∀{v':Lb→Option Nat},(∀l:Lb,l.2<1000+((0:Nat):Int)→v' l=gS 0 W (vC way) 6 (bjs b).length l)→∀j,0≤j→j<0+W.length→v' (.agn,100+(j:Int))=some 6:=fun hv j h1 h2=>by
  rw[hv _ (by dsimp only;omega)]
  exact Zs7 6 _ W 0 _ j h1 h2
 have cr:∀{v':Lb→Option Nat},(∀l:Lb,l.2<1000+((0:Nat):Int)→v' l=gS 0 W (vC way) 6 (bjs b).length l)→(C6 way x lim).map (res v')=(R6 way x lim).map some:=fun hv=>Zp7 way x lim fun l hl=>by
  rw[hv l (by omega)]
  exact E6 6 _ W 0 _ l (.inl (by omega))
 have all:∀(B:List Raw),(∀v',(∀l:Lb,l.2<1000+((0:Nat):Int)→v' l=gS 0 W (vC way) 6 (bjs b).length l)→(bjs b).map (res v')=B.map some)→B.length=(bjs b).length→B.length≤1→(∀r∈B,∃g,r= .jump g∧6≤g∧g<6+(B.length+(Jw 0 W).length))→∃(Lp:List Pr) (v:Lb→Option Nat) (Lr:List Raw),Bk (cnt way x lim++lst6 wl x (nstW 0 W b)) (C6 way x lim++Lp) v∧(∀l:Lb,1000+((0:Nat):Int)≤l.2→v l=none)∧(∀v',(∀l:Lb,l.2<1000+((0:Nat):Int)→v' l=v l)→(C6 way x lim++Lp).map (res v')=(R6 way x lim++Lr).map some)∧Lp.length=Lr.length∧LastOk wl x Lr:=by
  intro B h1 h2 h3 h4
  have hall:∀r∈B++Df (Jw 0 W).length (Raw.jump 6),∃g,r= .jump g∧6≤g∧g<6+(B.length+(Jw 0 W).length):=by
   intro r hr
   rcases Ho.mp hr with hr | hr
   ·exact h4 r hr
   ·rw[List.mem_replicate] at hr
    exact⟨6,hr.2,Nat.le_refl _,by omega⟩
  refine⟨bjs b++Jw 0 W,gS 0 W (vC way) 6 (bjs b).length,B++Df (Jw 0 W).length (.jump 6),?_,fun l hl=>?_,fun v' hv=>?_,by rw[Ac,Ac,Kd,h2],fun r hr=>?_,by rw[Ac,Kd];omega,.inr (.inr (.inr (.inr ⟨by omega,by rw[Ac,Kd];omega,fun r hr=>by obtain⟨g,h,_⟩:=hall r hr;exact⟨g,h⟩⟩)))⟩
  ·rw[e];exact run _ _ _ rn
  ·rw[E6 6 _ W 0 _ l (.inr (by omega))];exact far l hl
  ·rw[Az,Az,Az,Az,cr hv,h1 v' hv,Zq8 W 0 (agn hv)]
  ·rw[Ac,Kd]
   exact .inl (hall r hr)
 rcases sp.2 with rfl | ⟨j,hj,rfl⟩ | ⟨j,hj0,hj,rfl⟩
 ·exact all [] (fun _ _=>rfl) rfl (by decide) fun r hr=>by cases hr
 ·have hjl:=(Af.mp hj).1
  refine all [.jump 6] (fun v' hv=>?_) rfl (by decide) fun r hr=>?_
  ·show [(v' (.agn,100+(j:Int))).map Raw.jump]=_
   rw[agn hv j (Nat.zero_le _) (by omega)]
   rfl
  ·rw[Db] at hr
   exact⟨6,hr,Nat.le_refl _,by omega⟩
 ·obtain⟨k,h1,h2,h3⟩:=Zq7 6 1 W 0 (vC way) j (Nat.zero_le _) (by omega)
  have h4:=h3 hj0 us hus
  refine all [.jump (6+1+k)] (fun v' hv=>?_) rfl (by simp) fun r hr=>?_
  ·show [(v' (.lve,100+(j:Int))).map Raw.jump]=_
   rw[hv _ (by dsimp only;omega)]
   show [Option.map Raw.jump (gS 0 W (vC way) 6 1 (.lve,100+(j:Int)))]=_
   rw[h1]
   rfl
  ·rw[Db] at hr
   exact⟨6+1+k,hr,by omega,by rw[Am];omega⟩
noncomputable def Yu(way:Nat)(x:Str)(lim:Opd)(Lr:List Raw)(W:List Bool):List Raw:=R6 way x lim++(Lr++(Zv (6+Lr.length) W++[.fin]))
theorem Ya4(way wl:Nat)(x:Str)(lim:Opd){W0:List Bool}{b:List T}(sp:SpOk W0 b)(hW:W0.length≤50)(W:List Bool):∃(c:CS) (Lr:List Raw),crun c0 (fls (wrp 0 W (cnt way x lim++lst6 wl x (nstW 0 W0 b))))=some c∧(c.t++[Pr.fin]).map (res c.f)=(Yu way x lim Lr W).map some∧LastOk wl x Lr:=by
 obtain⟨Lp,v,Lr,h1,h2,h3,h5,h4⟩:=Y70 way wl x lim sp hW
 obtain⟨v',g1,g2,g3⟩:=Z50 W 0 _ _ v h1 h2
 have e:orF v' c0.f=v':=by
  funext l
  show(v' l).or none=v' l
  rw[Option.or_none]
 refine⟨_,Lr,g1 c0.f c0.o fun _=>rfl,?_,h4⟩
 dsimp only
 rw[e,Az,Az,h3 v' g2,g3]
 have hl:(C6 way x lim++Lp).length=6+Lr.length:=by rw[Ac,h5];rfl
 rw[hl]
 unfold Yu
 simp only[Az,Dg]
 rfl
theorem rw_num(k:Nat)(r:Raw):(r.rw k).num=k:=by cases r<;>rfl
theorem Fz(raws:List Raw):(X7 raws).map Rw.num=Hz raws.length:=by
 apply List.ext_getElem (by rw[Ah,Y5];simp)
 intro i h1 h2
 rw[List.getElem_map,List.getElem_range]
 unfold X7
 rw[List.getElem_mapIdx,rw_num]
theorem Zs1{raws:List Raw}{t:Nat}(h:t<raws.length):Fl (X7 raws) t=t:=by
 unfold Fl
 rw[Fz]
 have nd:=List.nodup_range (n:=raws.length)
 have hl:t< (Hz raws.length).length:=by rw[List.length_range];exact h
 have:=nd.idxOf_getElem t hl
 rwa[List.getElem_range] at this
theorem V4{raws:List Raw}{p t:Nat}(h:raws[p]?=some (.jump t))(ht:t<raws.length):jmp (X7 raws) p=some t:=by
 unfold jmp
 rw[W1 h]
 show some (Fl (X7 raws) t)=some t
 rw[Zs1 ht]
theorem Q2{raws:List Raw}{p:Nat}{r:Raw}(h:raws[p]?=some r)(hn:∀t,r≠ .jump t):jmp (X7 raws) p=none:=by
 unfold jmp
 rw[W1 h]
 cases r with
 | jump t=>exact absurd rfl (hn t)
 | _=>rfl
theorem Zc6{raws:List Raw}{p:Nat}{r:Rw}(h:(X7 raws)[p]?=some r):∃q,raws[p]?=some q∧r=q.rw p:=by
 unfold X7 at h
 rw[Km,Dm] at h
 obtain⟨q,h1,h2⟩:=h
 exact⟨q,h1,h2.symm⟩
def GOk(N:Nat):Raw→Prop
 | .test _ _ _ t=>t<N
 | .jump t=>t<N
 | _=>True
theorem Zx2{A:List Raw}(hA:0<A.length)(hl:A.length<2000)(h:∀r∈A,GOk (A.length+1) r):RwOk (X7 (A++[.fin])) where
 pos:=by rw[Y5,Ac,Am];omega
 small:=by rw[Y5,Ac,Am];omega
 nd:=by rw[Fz];exact List.nodup_range
 goal:=by
  intro r hr g hg
  obtain⟨p,hp⟩:=List.getElem?_of_mem hr
  obtain⟨q,hq,rfl⟩:=Zc6 hp
  have hm:=Hb hq
  rw[Fz,Lm,Ac,Am]
  have hG:GOk (A.length+1) q:=by
   rcases Ho.mp hm with hm | hm
   ·exact h q hm
   ·rw[Db] at hm;subst hm;exact Dy
  cases q with
  | sum y a sg b=>cases hg
  | test a sg b t=>cases hg;exact hG
  | jump t=>cases hg;exact hG
  | fin=>cases hg
 last:=by
  intro p r hr hg
  obtain⟨q,hq,rfl⟩:=Zc6 hr
  rw[Y5,Ac,Am]
  have hp:=(Af.mp hq).1
  rw[Ac,Am] at hp
  by_cases e:p=A.length
  ·subst e
   rw[Dk (Nat.le_refl _),Nat.sub_self] at hq
   cases hq
   cases hg
  ·omega
theorem Re:∀(ws:List Bool) (n:Nat),∀r∈Zv n ws,∃g,r= .jump g∧g≤n+(Zv n ws).length
 | [],n,r,hr=>by cases hr
 | true::ws,n,r,hr=>by
  have e:(Zv n (true::ws)).length=(Zv (n+2) ws).length+2:=rfl
  rw[e]
  rcases Aw.mp hr with rfl | hr
  ·exact⟨_,rfl,by omega⟩
  rcases Aw.mp hr with rfl | hr
  ·exact⟨_,rfl,by omega⟩
  ·obtain⟨g,h1,h2⟩:=Re ws (n+2) r hr
   exact⟨g,h1,by omega⟩
 | false::ws,n,r,hr=>Re ws n r hr
theorem J9:∀(ws:List Bool) (n:Nat),(Zv n ws).length≤2 * ws.length
 | [],n=>Nat.le_refl _
 | true::ws,n=>by have:=J9 ws (n+2);show(Zv (n+2) ws).length+2≤_;rw[An];omega
 | false::ws,n=>by have:=J9 ws n;show(Zv n ws).length≤_;rw[An];omega
theorem Ql:∀(ws:List Bool) (A:List Raw) (raws:List Raw),raws=A++(Zv A.length ws++[.fin])→∀{L:Nat→Nat},Lands (X7 raws) L→L A.length=A.length+(Zv A.length ws).length
 | [],A,raws,e,L,ln=>by
  subst e
  have hr:(A++(Zv A.length []++[.fin]))[A.length]?=some .fin:=by rw[Dk (Nat.le_refl _),Nat.sub_self];rfl
  exact ln.no _ (by rw[Y5];exact(Af.mp hr).1) (Q2 hr fun t z=>by cases z)
 | true::ws,A,raws,e,L,ln=>by
  have e2:raws=(A++[.jump (A.length+2),.jump 0])++(Zv (A++[Raw.jump (A.length+2),.jump 0]).length ws++[.fin]):=by
   rw[e,Dg,Ac]
   rfl
  have ih:=Ql ws (A++[.jump (A.length+2),.jump 0]) raws e2 ln
  have hr:raws[A.length]?=some (.jump (A.length+2)):=by rw[e,Dk (Nat.le_refl _),Nat.sub_self];rfl
  have hl:A.length+2<raws.length:=by
   rw[e2,Ac,Ac,Ac]
   show _<A.length+2+(_+1)
   omega
  rw[ln.yes _ _ (by rw[Y5];omega) (V4 hr hl)]
  rw[Ac] at ih
  show L (A.length+2)=A.length+((Zv (A.length+2) ws).length+2)
  have ih:L (A.length+2)=A.length+2+(Zv (A.length+2) ws).length:=ih
  omega
 | false::ws,A,raws,e,L,ln=>Ql ws A raws e ln
section
variable{way wl:Nat}{x:Str}{lim:Opd}{Lr:List Raw}{W:List Bool}
theorem Bx:(Yu way x lim Lr W).length=6+Lr.length+(Zv (6+Lr.length) W).length+1:=by
 unfold Yu
 simp only[Ac,Am]
 show 6+_=_
 omega
theorem Z57(h:LastOk wl x Lr)(hW:W.length≤100):RwOk (X7 (Yu way x lim Lr W)):=by
 have e:Yu way x lim Lr W=(R6 way x lim++(Lr++Zv (6+Lr.length) W))++[.fin]:=by
  unfold Yu
  simp only[Dg]
 have t1:=J9 W (6+Lr.length)
 have l1:=h.len
 have len:(R6 way x lim++(Lr++Zv (6+Lr.length) W)).length=6+Lr.length+(Zv (6+Lr.length) W).length:=by
  rw[Ac,Ac]
  show 6+_=_
  omega
 rw[e]
 refine Zx2 (by omega) (by omega) fun r hr=>?_
 rw[len]
 rcases Ho.mp hr with hr | hr
 ·unfold R6 at hr
  simp only[Aw,List.mem_nil_iff,or_false] at hr
  rcases hr with rfl | rfl | rfl | rfl | rfl | rfl
  ·exact Dy
  ·show 3<_;omega
  ·show 4<_;omega
  ·show(if way=0 then 0 else 5)<_;split<;>omega
  ·show 6<_;omega
  ·show 0<_;omega
 rcases Ho.mp hr with hr | hr
 ·rcases h.a r hr with⟨g,rfl,_,h3⟩ | ⟨y,a,s,b,rfl⟩ | rfl
  ·show g<_;omega
  ·exact Dy
  ·exact Dy
 ·obtain⟨g,rfl,h2⟩:=Re W _ r hr
  show g<_
  omega
theorem N6(i:Nat):(Yu way x lim Lr W)[6+i]?=(Lr++(Zv (6+Lr.length) W++[.fin]))[i]?:=by
 unfold Yu
 rw[Dk (by show 6≤_;omega)]
 congr 1
 show 6+i - 6=i
 omega
theorem wEnd{m most:Nat}(h:wl<2)(hn:¬most<2 * m):Wz (wl:Int) m most="end":=by
 unfold Wz
 rw[if_neg (by omega),if_pos (by omega)]
theorem wSum{m most:Nat}(h:2≤wl)(h2:wl≤3)(hn:¬most<2 * m):Wz (wl:Int) m most=if 2 * m<most then("fault":Str) else("on":Str):=by
 unfold Wz
 rw[if_neg (by omega),if_neg (by omega)]
theorem wOn{m most:Nat}(h:3<wl):Wz (wl:Int) m most="on":=by
 unfold Wz
 rw[if_pos (.inl (by omega))]
theorem Yg4{m:Nat}{s:Int}{most:Nat}(h:LastOk wl x Lr)(hm:0<m)(hm2:m≤2000)(hx:x≠"limit")(hx2:x≠"nought")(hl:Y89 lim s m):
  ∀L,Lands (X7 (Yu way x lim Lr W)) L→L 0=0∧∃E,Fam (X0 (X7 (Yu way x lim Lr W)) L) (memK x s m) x s m E∧Wa E m most=Wz (wl:Int) m most:=by
 intro L ln
 have N:=Bx (way:=way) (x:=x) (lim:=lim) (Lr:=Lr) (W:=W)
 have r0:(Yu way x lim Lr W)[0]?=some (.sum x (.nm x) "+" (.no 1)):=rfl
 have r1:(Yu way x lim Lr W)[1]?=some (.test (.nm x) "<" lim 3):=rfl
 have r2:(Yu way x lim Lr W)[2]?=some (.jump 4):=rfl
 have r3:(Yu way x lim Lr W)[3]?=some (.jump (if way=0 then 0 else 5)):=rfl
 have r4:(Yu way x lim Lr W)[4]?=some (.jump 6):=rfl
 have r5:(Yu way x lim Lr W)[5]?=some (.jump 0):=rfl
 have l0:L 0=0:=ln.no 0 (by rw[Y5];omega) (Q2 r0 fun t z=>by cases z)
 have l1:L 1=1:=ln.no 1 (by rw[Y5];omega) (Q2 r1 fun t z=>by cases z)
 have l5:L 5=0:=by rw[ln.yes 5 0 (by rw[Y5];omega) (V4 r5 (by omega)),l0]
 have l3:L 3=0:=by
  by_cases w:way=0
  ·rw[if_pos w] at r3
   rw[ln.yes 3 0 (by rw[Y5];omega) (V4 r3 (by omega)),l0]
  ·rw[if_neg w] at r3
   rw[ln.yes 3 5 (by rw[Y5];omega) (V4 r3 (by omega)),l5]
 have l2:L 2=L 6:=by rw[ln.yes 2 4 (by rw[Y5];omega) (V4 r2 (by omega)),ln.yes 4 6 (by rw[Y5];omega) (V4 r4 (by omega))]
 refine⟨l0,?_⟩
 have fm:∀E,(X0 (X7 (Yu way x lim Lr W)) L)[L 6]?=some E→Y82 (Zn (memK x s m) x s (2 * m)) E→Fam (X0 (X7 (Yu way x lim Lr W)) L) (memK x s m) x s m E:=by
  intro E hE en
  refine⟨⟨lim,L 6,?_,?_,hE,fun j _=>?_⟩,fun j _=>Z82 x s m j hx,en,hm,hm2,?_⟩
  ·rw[Xr (W1 r0)]
   show some (Nd.sum x (.nm x) "+" (.no 1) (L 1))=_
   rw[l1]
  ·rw[Xr (W1 r1)]
   show some (Nd.test (.nm x) "<" lim (L (Fl (X7 (Yu way x lim Lr W)) 3)) (L 2))=_
   rw[Zs1 (by omega),l3,l2]
  ·rcases hl with rfl | rfl
   ·rfl
   ·show(valD (Zn (memK x s m) x s j) (Bs "limit")).getD (.int 0)=_
    rw[Cg _ _ _ _ _ (Ch hx),Y32 _ _ _ hx]
    rfl
  ·unfold memK
   split<;>simp
 have wd:∀E:Nd,(¬most<2 * m→(match E with | .sum _ _ _ _ _=>if 2 * m<most then("fault":Str) else "on" | .fin=>"end" | _=>"on")=Wz (wl:Int) m most)→Wa E m most=Wz (wl:Int) m most:=by
  intro E h
  by_cases hlt:most<2 * m
  ·unfold Wa Wz
   rw[if_pos hlt,if_pos (.inr hlt)]
  ·rw[←h hlt]
   unfold Wa
   rw[if_neg hlt]
   all_goals (cases E<;>rfl)
 have stay:∀{r:Raw},Lr[0]?=some r→(∀t,r≠ .jump t)→(X0 (X7 (Yu way x lim Lr W)) L)[L 6]?=some ((r.rw 6).node (X7 (Yu way x lim Lr W)) L 6):=by
  intro r hr hn
  have hl0:0<Lr.length:=(Af.mp hr).1
  have h6:(Yu way x lim Lr W)[6]?=some r:=by rw[show(6:Nat)=6+0 from rfl,N6,Di hl0];exact hr
  rw[ln.no 6 (by rw[Y5];omega) (Q2 h6 hn)]
  exact Xr (W1 h6)
 rcases h.e with⟨w,e⟩ | ⟨w,e⟩ | ⟨w,e⟩ | ⟨w,e⟩ | ⟨w,e1,e2⟩
 ·subst e
  have hL:L 6=6+(Zv 6 W).length:=Ql W (R6 way x lim) _ rfl ln
  refine⟨.fin,fm _ ?_ Dy,wd _ fun hn=>?_⟩
  ·have hr:(Yu way x lim [] W)[6+(Zv 6 W).length]?=some .fin:=by
    rw[N6,Hj]
    show(Zv 6 W++[.fin])[(Zv 6 W).length]?=_
    rw[Dk (Nat.le_refl _),Nat.sub_self]
    rfl
   rw[hL,Xr (W1 hr)]
   rfl
  ·exact(wEnd (wl:=wl) (by omega) hn).symm
 ·refine⟨.fin,fm _ (stay e fun t z=>by cases z) Dy,wd _ fun hn=>?_⟩
  exact(wEnd (wl:=wl) (by omega) hn).symm
 ·refine⟨_,fm _ (stay e fun t z=>by cases z) ⟨.inl rfl,rfl,_,Z82 x s m _ hx⟩,wd _ fun hn=>?_⟩
  exact(wSum (wl:=wl) (by omega) (by omega) hn).symm
 ·refine⟨_,fm _ (stay e fun t z=>by cases z) ⟨.inr rfl,?_,7,rfl⟩,wd _ fun hn=>?_⟩
  ·show(valD (Zn (memK x s m) x s (2 * m)) (Bs "nought")).getD (.int 0)=_
   rw[Cg _ _ _ _ _ (Ch hx2),Y73 _ _ _ _ (by decide+kernel) (Ch hx2)]
   rfl
  ·exact(wSum (wl:=wl) (by omega) (by omega) hn).symm
 ·refine⟨.spin,fm _ ?_ Dy,wd _ fun hn=>?_⟩
  ·have row:∀i,i<Lr.length→∃g,(Yu way x lim Lr W)[6+i]?=some (.jump g)∧6≤g∧g<6+Lr.length:=by
    intro i hi
    have hm:=Ht hi
    obtain⟨g,hg⟩:=e2 _ hm
    refine⟨g,?_,?_⟩
    ·rw[N6,Di hi,Ai hi,hg]
    ·rcases h.a _ hm with⟨g',z,a,b⟩ | ⟨y,a,s,b,z⟩ | z
     ·rw[hg] at z;cases z;exact⟨a,b⟩
     ·rw[hg] at z;cases z
     ·rw[hg] at z;cases z
   have cl:∀p q,LN.Orb (jmp (X7 (Yu way x lim Lr W))) p q→(6≤p∧p<6+Lr.length)→(6≤q∧q<6+Lr.length):=by
    intro p q ho
    induction ho with
    | refl _=>exact fun h=>h
    | @step p q r e _ ih=>
     intro hp
     refine ih ?_
     obtain⟨g,hr,g1,g2⟩:=row (p - 6) (by omega)
     rw[show 6+(p - 6)=p by omega] at hr
     rw[V4 hr (by omega)] at e
     cases e
     exact⟨g1,g2⟩
   have b:=cl _ _ (ln.orb 6 (by rw[Y5];omega)) ⟨Nat.le_refl _,by omega⟩
   obtain⟨g,hr,_⟩:=row (L 6 - 6) (by omega)
   rw[show 6+(L 6 - 6)=L 6 by omega] at hr
   rw[Xr (W1 hr)]
   rfl
  ·exact(wOn (by omega)).symm
end
def Z8:DSp:=fun ds M Q _=>∃(us:List T) (r mm most:Nat) (c:CS) (raws:List Raw) (kvs:List (Key×D)) (x:Str) (s:Int) (m:Nat) (wd:Str),ds=[.ref r,.ref mm,.int (most:Nat)]∧Fm M us r∧(fls us).length≤1000∧crun c0 (fls us)=some c∧(c.t++[Pr.fin]).map (res c.f)=raws.map some∧RwOk (X7 raws)∧Zq M mm=some kvs∧
 (∀L,Lands (X7 raws) L→L 0=0∧∃E,Fam (X0 (X7 raws) L) kvs x s m E∧Wa E m most=wd)∧
 ∀M' r h,Kp M M'→Zf M' r=some (Y4 x s m (min (2 * m) most))→Zq M' h=some (Zn kvs x s (min (2 * m) most))→M.length≤r→M.length≤h→Q (.tup [.ref r,.str wd,.ref h]) M'
section
variable{K:Ab}{Γ:List DSp}{G:List D}
theorem Z13(g7:Γ[7]?=some Zg)(g20:Γ[20]?=some X5):∀ds M Q Z,Z8 ds M Q Z→tss ⟨K,Γ,G⟩ noX b_run_form {nx:=fun _ M=>Q .non M,rt:=Q} (start0 Tf ds) M:=by
 rintro ds M Q Z ⟨us,r,mm,most,c,raws,kvs,x,s,m,wd,rfl,⟨ds',hr,rt⟩,hz,hc,hres,ok,hd,fam,q⟩
 delta b_run_form Tf
 walk_at "ev"
 refine⟨Al M,us,r,ds',c,raws,rfl,hr,rt,fun _ z=>z,hz,hc,hres,fun M1 r1 k1 hr1 _=>?_⟩
 try walk_at "ev"
 refine⟨r1,mm,most,X7 raws,kvs,x,s,m,wd,rfl,Z2 hr1,ok,k1.D hd,fam,fun M2 r2 h2 k2 a1 a2 a3 a4=>?_⟩
 exact q _ _ _ (k1.trans k2) a1 a2 (Nat.le_trans k1.len a3) (Nat.le_trans k1.len a4)
theorem law2(g24:Γ[24]?=some (Yh 2))(g25:Γ[25]?=some Wh)(g31:Γ[31]?=some Rf){M:Z3}{Q:DK}{x:Str}{s way:Int}{m most r r2 h bh N:Nat}{d0 d4 d5 d7 d8 d9:Option D}(q:∀M',Q (.bl true) M')(hx:x≠"limit")(hm:m≤2000)(hN:N≤4000)(hne:h≠bh)
  (hr:Zf M r=some (Y4 x s m N)) (hr2:Zf M r2=some (Y4 x s m N)) (hh:Zq M h=some (Zn (memK x s m) x s N)) (hb:Zq M bh=some (Zn (memK x s m) x s N)):
  tss ⟨K,Γ,G⟩ noX Fx {nx:=fun _ M=>Q .non M,rt:=Q} [d0,some (.str x),some (.int s),some (.int (m:Nat)),d4,d5,some (.int way),d7,d8,d9,some (.int (most:Nat)),some (.tup [.ref r,.str (Wz way m most),.ref h]),some (.ref r2),some (.ref bh)] M:=by
 delta Fx
 walk_at "ev"
 try simp only[g31]
 refine⟨way,m,most,rfl,hm,fun M1 k1=>?_⟩
 try walk_at "ev"
 refine⟨_,_,rfl,AL.flat rfl,?_⟩
 try walk_at "ev"
 try delta Za7
 try walk_at "ev"
 refine⟨_,_,rfl,.inr (.inr ⟨r,r2,_,_,rfl,rfl,k1.W hr,k1.W hr2,rfl,fun i a b ea eb=>?_⟩),?_⟩
 ·rw[ea] at eb
  cases eb
  unfold Y4 at ea
  rw[Ax,Dm] at ea
  obtain⟨j,_,rfl⟩:=ea
  exact Z77 _ _ _ _ _
 try walk_at "ev"
 obtain⟨f1,f2⟩:=Zd4 x s m N hx
 exact⟨h,bh,_,rfl,k1.D hh,k1.D hb,hne,f1,f2,q _⟩
theorem law3(g24:Γ[24]?=some (Yh 2))(g25:Γ[25]?=some Wh)(g30:Γ[30]?=some Vx)(g31:Γ[31]?=some Rf){M:Z3}{Q:DK}{x:Str}{s way:Int}{m most r h mm:Nat}{d0 d4 d5 d7 d9 d12 d13:Option D}(q:∀M',Q (.bl true) M')(hx:x≠"limit")(hm:m≤2000)
  (hr:Zf M r=some (Y4 x s m (min (2 * m) most))) (hh:Zq M h=some (Zn (memK x s m) x s (min (2 * m) most))) (hb:Zq M mm=some (memK x s m)):
  tss ⟨K,Γ,G⟩ noX Nz {nx:=fun _ M=>Q .non M,rt:=Q} [d0,some (.str x),some (.int s),some (.int (m:Nat)),d4,d5,some (.int way),d7,some (.ref mm),d9,some (.int (most:Nat)),some (.tup [.ref r,.str (Wz way m most),.ref h]),d12,d13] M:=by
 have hN:min (2 * m) most≤4000:=by omega
 generalize eN:min (2 * m) most=N at hr hh hN
 delta Nz
 walk_at "ev"
 try simp only[g30]
 refine⟨x,s,m,most,rfl,hm,fun M1 r2 k1 hr2 _=>?_⟩
 rw[eN] at hr2
 try walk_at "ev"
 refine .inl ⟨_,k1.D hb,?_⟩
 have k2:Kp M1 (M1++[.dct (memK x s m)]):=Ks.new _ _
 have hb1:Zq (M1++[.dct (memK x s m)]) M1.length=some (memK x s m):=Yx _ _ []
 have hh1:=k1.D hh
 have hr1:=k1.W hr
 have hhl:h<M1.length:=Np hh1
 try walk_at "ev"
 refine Y7 (Y6 (Z2 hr2)) ?_
 rw[W7]
 try walk_at "ev"
 by_cases h0:N=0
 ·subst h0
  rw[if_neg (by decide)]
  try walk_at "ev"
  exact law2 g24 g25 g31 q hx hm hN (by omega) (Zp hr1) (Zp hr2) (T4 hh1) hb1
 ·rw[if_pos (by omega)]
  try walk_at "ev"
  refine Y7 (Y6 (Z2 hr2)) ?_
  rw[W7]
  try walk_at "ev"
  rw[qd (by decide)]
  refine⟨Yi (by decide) (by decide),.inr (.inl ⟨_,_,hb1,rfl,?_,?_⟩)⟩
  ·unfold memK
   split<;>exact Z6 (by simp)
  have e:putD (memK x s m) (Bs x) (.int (s+((N:Int)+1) / 2))=Zn (memK x s m) x s N:=by
   unfold Zn
   rw[if_neg h0]
   congr 2
  rw[e,Xl]
  try walk_at "ev"
  exact law2 g24 g25 g31 q hx hm hN (by omega) (Zp hr1) (Zp hr2) (T4 hh1) (Yx _ _ [])
theorem law4(g21:Γ[21]?=some Z8)(g22:Γ[22]?=some Vh)(g23:Γ[23]?=some Tn)(g24:Γ[24]?=some (Yh 2))(g25:Γ[25]?=some Wh)(g30:Γ[30]?=some Vx)(g31:Γ[31]?=some Rf)(g34:Γ[34]?=some (fun as M Q Z=>Z8 (as++[.int 100]) M Q Z))
  {M:Z3} {Q:DK} {x:Str} {s way:Int} {m f mm:Nat} {us:List T} {c:CS} {raws:List Raw} {d4 d7 d9 d10 d11 d12 d13:Option D} (q:∀M',Q (.bl true) M') (hx:x≠"limit") (hm0:0<m) (hm:m≤2000) (h0:Scr M 0) (hf:Fm M us f) (hz:(fls us).length≤1000) (hcr:crun c0 (fls us)=some c) (hres:(c.t++[Pr.fin]).map (res c.f)=raws.map some) (ok:RwOk (X7 raws)) (hmm:Zq M mm=some (memK x s m))
  (fam:∀most L,Lands (X7 raws) L→L 0=0∧∃E,Fam (X0 (X7 raws) L) (memK x s m) x s m E∧Wa E m most=Wz way m most):
  tss ⟨K,Γ,G⟩ noX E1 {nx:=fun _ M=>Q .non M,rt:=Q} [some (.ref 0),some (.str x),some (.int s),some (.int (m:Nat)),d4,some (.ref f),some (.int way),d7,some (.ref mm),d9,d10,d11,d12,d13] M:=by
 have go:∀(most:Nat) (M1:Z3) (d9:Option D),Kp M M1→Z8 [.ref f,.ref mm,.int (most:Nat)] M1 (fun d M2=>tss ⟨K,Γ,G⟩ noX Nz {nx:=fun _ M=>Q .non M,rt:=Q} [some (.ref 0),some (.str x),some (.int s),some (.int (m:Nat)),d4,some (.ref f),some (.int way),d7,some (.ref mm),d9,some (.int (most:Nat)),some d,d12,d13] M2) noX:=by
  intro most M1 d9 k1
  refine⟨us,f,mm,most,c,raws,memK x s m,x,s,m,Wz way m most,rfl,hf.kp k1,hz,hcr,hres,ok,k1.D hmm,fam most,fun M2 r h k2 hr hh hrl hhl=>?_⟩
  exact law3 g24 g25 g30 g31 q hx hm hr hh (k2.D (k1.D hmm))
 delta E1
 walk_at "ev"
 try simp only[g23]
 refine⟨0,10,rfl,h0,by decide,fun v hv=>?_⟩
 try walk_at "ev"
 rw[qd (by decide),qm (by decide)]
 obtain⟨c,hc,ec⟩:=X4 ((v:Int) / 8) (show 0<6 by decide)
 rw[show((6:Nat):Int)=6 from rfl] at ec
 rw[ec]
 refine⟨Yi (by decide) (by decide),?_⟩
 try walk_at "ev"
 try simp only[g22]
 refine⟨mulL (by decide) (by decide),mulL (by decide) (by decide),mulL (by decide) (by decide),0,11,rfl,h0,fun v2=>?_⟩
 try walk_at "ev"
 rw[qm (by decide)]
 obtain⟨e8,he8,ee8⟩:=X4 v2 (show 0<200 by decide)
 rw[show((200:Nat):Int)=200 from rfl] at ee8
 rw[ee8]
 refine⟨Z0 (by decide),?_⟩
 obtain⟨mo,hg,h100⟩:∃mo:Nat,([.int 100,.int 0,.int (2 * (m:Int)),.int (2 * (m:Int) - 1),.int (2 * (m:Int)+1),.int (e8:Nat)]:List D)[c]?=some (.int (mo:Nat))∧(c=0→mo=100):=by
  match c,hc with
  | 0,_=>exact⟨100,rfl,fun _=>rfl⟩
  | 1,_=>exact⟨0,rfl,fun h=>by cases h⟩
  | 2,_=>exact⟨2 * m,by show some (D.int _)=some (D.int _);congr 2,fun h=>by cases h⟩
  | 3,_=>exact⟨2 * m - 1,by show some (D.int _)=some (D.int _);congr 2;omega,fun h=>by cases h⟩
  | 4,_=>exact⟨2 * m+1,by show some (D.int _)=some (D.int _);congr 2,fun h=>by cases h⟩
  | 5,_=>exact⟨e8,rfl,fun h=>by cases h⟩
 refine ix_l (Yr _ _ []) hg ?_
 try walk_at "ev"
 by_cases hc0:c=0
 ·rw[if_pos (by omega)]
  have e:=h100 hc0
  subst e
  try walk_at "ev"
  try simp only[g34]
  exact go 100 _ _ (Ks.new _ _)
 ·rw[if_neg (by omega)]
  try walk_at "ev"
  exact go mo _ _ (Ks.new _ _)
end
theorem Zh2(k:Nat)(w:Bool)(us:List T):(fls (wrap k w us)).length≤(fls us).length+3:=by
 unfold wrap
 cases w with
 | true=>
  rw[if_pos rfl,Xj,Vp,Dn,Vj,An,Ac,Wp,Ac]
  show(fls us).length+1+1+1≤_
  omega
 | false=>
  rw[if_neg Bool.false_ne_true,Xj,Vp,Dn,Vj,An,Ac]
  show(fls us).length+1+1≤_
  omega
theorem Zb3:∀(ws:List Bool) (k:Nat) (us:List T),(fls (wrp k ws us)).length≤(fls us).length+3 * ws.length
 | [],k,us=>Nat.le_refl _
 | w::ws,k,us=>by
  have h1:=Zb3 ws (k+1) (wrap k w us)
  have h2:=Zh2 k w us
  rw[An]
  show(fls (wrp (k+1) ws (wrap k w us))).length≤_
  omega
theorem Z89:∀(ws:List Bool) (i:Nat) (b:List T),(fls (nstW i ws b)).length≤(fls b).length+2 * ws.length
 | [],i,b=>Nat.le_refl _
 | w::ws,i,b=>by
  have h1:=Z89 ws (i+1) b
  rw[An]
  show(fls [.home w (100+(i:Int)) (nstW (i+1) ws b)]).length≤_
  rw[Xj,Vp,Dn,Vj,An,Ac,Am]
  omega
theorem Zd7(way:Nat)(x:Str)(lim:Opd):(fls (cnt way x lim)).length≤9∧(cnt way x lim).length=1:=by
 unfold cnt
 split
 ·exact⟨by show 7≤9;decide,rfl⟩
 split
 ·exact⟨by show 7≤9;decide,rfl⟩
 ·exact⟨by show 9≤9;decide,rfl⟩
theorem B9(wl:Nat)(x:Str)(us:List T):(fls (lst6 wl x us)).length≤(fls us).length+2∧(lst6 wl x us).length≤us.length+2:=by
 unfold lst6
 split
 ·exact⟨Nat.zero_le _,Nat.zero_le _⟩
 split
 ·exact⟨by show 2≤_;omega,by show 2≤_;omega⟩
 split
 ·exact⟨by show 1≤_;omega,by show 1≤_;omega⟩
 split
 ·exact⟨by show 1≤_;omega,by show 1≤_;omega⟩
 ·exact⟨by omega,by omega⟩
theorem Y53{W:List Bool}{b:List T}(sp:SpOk W b):(fls b).length≤1:=by
 rcases sp.2 with rfl | ⟨j,_,rfl⟩ | ⟨j,_,_,rfl⟩
 ·exact Nat.zero_le _
 ·exact Nat.le_refl _
 ·exact Nat.le_refl _
theorem Zu5{W:List Bool}{b:List T}(sp:SpOk W b):(nstW 0 W b).length≤1:=by
 cases W with
 | nil=>cases sp.1
 | cons w ws=>exact Nat.le_refl _
section
variable{K:Ab}{Γ:List DSp}{G:List D}
theorem law5(g21:Γ[21]?=some Z8)(g22:Γ[22]?=some Vh)(g23:Γ[23]?=some Tn)(g24:Γ[24]?=some (Yh 2))(g25:Γ[25]?=some Wh)(g26:Γ[26]?=some Yz)(g27:Γ[27]?=some Sb)(g28:Γ[28]?=some Rn)(g29:Γ[29]?=some V1)(g30:Γ[30]?=some Vx)(g31:Γ[31]?=some Rf)(g34:Γ[34]?=some (fun as M Q Z=>Z8 (as++[.int 100]) M Q Z))
  {M:Z3} {Q:DK} {x:Str} {s:Int} {m:Nat} {d4 d5 d6 d7 d8 d9 d10 d11 d12 d13:Option D} (q:∀M',Q (.bl true) M') (hx:x≠"limit") (hx2:x≠"nought") (hm0:0<m) (hm:m≤2000) (h0:Scr M 0):
  tss ⟨K,Γ,G⟩ noX Ec {nx:=fun _ M=>Q .non M,rt:=Q} [some (.ref 0),some (.str x),some (.int s),some (.int (m:Nat)),d4,d5,d6,d7,d8,d9,d10,d11,d12,d13] M:=by
 delta Ec
 walk_at "ev"
 refine⟨Z0 (by decide),0,3,rfl,h0.kp (Ks.new _ _),by decide,fun v hv=>?_⟩
 try walk_at "ev"
 rw[qd (by decide),qm (by decide)]
 obtain⟨c5,hc5,ec5⟩:=X4 ((v:Int) / 8) (show 0<2 by decide)
 rw[show((2:Nat):Int)=2 from rfl] at ec5
 rw[ec5]
 obtain⟨lim,hgl,hlim⟩:∃lim:Opd,([.int (s+(m:Int)),.str "limit"]:List D)[c5]?=some lim.d∧Y89 lim s m:=by
  match c5,hc5 with
  | 0,_=>exact⟨.no (s+m),rfl,.inl rfl⟩
  | 1,_=>exact⟨.nm "limit",rfl,.inr rfl⟩
 refine⟨Yi (by decide) (by decide),ix_l (Yr _ _ []) hgl ?_⟩
 have h1:Scr (M++[Cell.lst [.int (s+(m:Int)),.str "limit"]]) 0:=h0.kp (Ks.new _ _)
 generalize M++[Cell.lst [.int (s+(m:Int)),.str "limit"]]=M1 at h1
 try walk_at "ev"
 refine⟨0,4,rfl,h1,by decide,fun v hv=>?_⟩
 try walk_at "ev"
 rw[qd (by decide),qm (by decide)]
 obtain⟨way,hway,eway⟩:=X4 ((v:Int) / 8) (show 0<3 by decide)
 rw[show((3:Nat):Int)=3 from rfl] at eway
 rw[eway]
 refine⟨Yi (by decide) (by decide),way,x,lim,rfl,fun M2 f2 k2 hf2=>?_⟩
 have h2:=h1.kp k2
 try walk_at "ev"
 refine⟨0,5,rfl,h2,by decide,fun v hv=>?_⟩
 try walk_at "ev"
 rw[qd (by decide),qm (by decide)]
 obtain⟨wl,hwl,ewl⟩:=X4 ((v:Int) / 8) (show 0<6 by decide)
 rw[show((6:Nat):Int)=6 from rfl] at ewl
 rw[ewl]
 refine⟨Yi (by decide) (by decide),?_⟩
 try walk_at "ev"
 refine⟨0,6,rfl,h2,by decide,fun cell hcell=>?_⟩
 try walk_at "ev"
 refine⟨0,7,rfl,h2,by decide,fun v hv=>?_⟩
 try walk_at "ev"
 rw[qd (by decide),qm (by decide)]
 obtain⟨mn,hmn,emn⟩:=X4 ((v:Int) / 8) (show 0<20 by decide)
 rw[show((20:Nat):Int)=20 from rfl] at emn
 rw[emn]
 refine⟨Yi (by decide) (by decide),cell,mn,rfl,by omega,fun W0 b M3 f3 sp hW0 k3 hf3=>?_⟩
 have h3:=h2.kp k3
 try walk_at "ev"
 try simp only[g28]
 refine⟨wl,x,f3,_,rfl,hf3,fun M4 f4 k4 hf4=>?_⟩
 have h4:=h3.kp k4
 have hf24:=hf2.kp (k3.trans k4)
 obtain⟨ds,e1,e2⟩:=hf24.get
 obtain⟨es,e3,e4⟩:=hf4.get
 have c1:=(Zd7 way x lim).2
 have c2:=(B9 wl x (nstW 0 W0 b)).2
 have c3:=Zu5 sp
 try walk_at "ev"
 refine⟨_,_,e1,e3,Z0 (by omega),?_⟩
 have hf5:=hf24.add hf4 e1 e3
 have h5:Scr (M4++[.lst (ds++es)]) 0:=h4.kp (Ks.new _ _)
 generalize M4++[.lst (ds++es)]=M5 at hf5 h5
 generalize M4.length=f5 at hf5
 try walk_at "ev"
 refine⟨0,8,rfl,h5,by decide,fun cell2 hcell2=>?_⟩
 try walk_at "ev"
 refine⟨0,9,rfl,h5,by decide,fun v hv=>?_⟩
 try walk_at "ev"
 rw[qd (by decide),qm (by decide)]
 obtain⟨mw,hmw,emw⟩:=X4 ((v:Int) / 8) (show 0<61 by decide)
 rw[show((61:Nat):Int)=61 from rfl] at emw
 rw[emw]
 try simp only[g29]
 refine⟨Yi (by decide) (by decide),f5,cell2,mw,_,rfl,hf5,by rw[Ac];omega,by omega,fun W M6 f6 hW k6 hf6=>?_⟩
 have h6:=h5.kp k6
 try walk_at "ev"
 refine⟨Yx _ _ [],?_⟩
 rw[Xl]
 obtain⟨c,Lr,hcr,hres,hlast⟩:=Ya4 way wl x lim sp hW0 W
 have rok:=Z57 (way:=way) (lim:=lim) (W:=W) hlast (by omega)
 have fam:=fun most=>Yg4 (way:=way) (W:=W) (most:=most) hlast hm0 hm hx hx2 hlim
 have hz:(fls (wrp 0 W (cnt way x lim++lst6 wl x (nstW 0 W0 b)))).length≤1000:=by
  have a1:=Zb3 W 0 (cnt way x lim++lst6 wl x (nstW 0 W0 b))
  have a2:=(Zd7 way x lim).1
  have a3:=(B9 wl x (nstW 0 W0 b)).1
  have a4:=Z89 W0 0 b
  have a5:=Y53 sp
  rw[Wp,Ac] at a1
  omega
 have hx1:¬((Bs "limit":Key)=Bs x):=fun e=>hx (Lg e).symm
 try walk_at "ev"
 by_cases hs:s=0
 ·rw[if_neg (by simpa using hs)]
  try walk_at "ev"
  refine law4 g21 g22 g23 g24 g25 g30 g31 g34 q hx hm0 hm (h6.kp (Ks.new _ _)) (hf6.kp (Ks.new _ _)) hz hcr hres rok ?_ fam
  rw[Yx]
  unfold memK
  rw[if_pos hs]
 ·rw[if_pos (by simpa using hs)]
  try walk_at "ev"
  refine .inr (.inl ⟨_,_,Yx _ _ [],rfl,Z6 (by simp),?_⟩)
  rw[Xl]
  try walk_at "ev"
  refine law4 g21 g22 g23 g24 g25 g30 g31 g34 q hx hm0 hm (h6.kp (Ks.new _ _)) (hf6.kp (Ks.new _ _)) hz hcr hres rok ?_ fam
  rw[Yx]
  unfold memK putD
  rw[if_neg hs,if_neg (by simp[hx1])]
  rfl
theorem Yd7(g21:Γ[21]?=some Z8)(g22:Γ[22]?=some Vh)(g23:Γ[23]?=some Tn)(g24:Γ[24]?=some (Yh 2))(g25:Γ[25]?=some Wh)(g26:Γ[26]?=some Yz)(g27:Γ[27]?=some Sb)(g28:Γ[28]?=some Rn)(g29:Γ[29]?=some V1)(g30:Γ[30]?=some Vx)(g31:Γ[31]?=some Rf)(g34:Γ[34]?=some (fun as M Q Z=>Z8 (as++[.int 100]) M Q Z)):∀ds M Q Z,Bt ds M Q Z→tss ⟨K,Γ,G⟩ noX b_law {nx:=fun _ M=>Q .non M,rt:=Q} (start0 Zn1 ds) M:=by
 rintro ds M Q Z ⟨ns,rfl,rfl,hns,hbits,q⟩
 have h0:Scr [Cell.frz (ns.map .int)] 0:=⟨ns,rfl,hns⟩
 generalize [Cell.frz (ns.map D.int)]=M at h0
 delta b_law Zn1
 walk_at "ev"
 refine⟨Z0 (by decide),0,0,rfl,h0.kp (Ks.new _ _),by decide,fun v hv=>?_⟩
 try walk_at "ev"
 rw[qd (by decide),qm (by decide)]
 obtain⟨c,hc,ec⟩:=X4 ((v:Int) / 8) (show 0<4 by decide)
 rw[show((4:Nat):Int)=4 from rfl] at ec
 rw[ec]
 obtain⟨x,hg,hx,hx2⟩:∃x:Str,([.str "x",.str "n1",.str "counter1",.str "e"]:List D)[c]?=some (.str x)∧x≠"limit"∧x≠"nought":=by
  match c,hc with
  | 0,_=>exact⟨"x",rfl,by decide+kernel,by decide+kernel⟩
  | 1,_=>exact⟨"n1",rfl,by decide+kernel,by decide+kernel⟩
  | 2,_=>exact⟨"counter1",rfl,by decide+kernel,by decide+kernel⟩
  | 3,_=>exact⟨"e",rfl,by decide+kernel,by decide+kernel⟩
 refine⟨Yi (by decide) (by decide),ix_l (Yr _ _ []) hg ?_⟩
 have h1:Scr (M++[Cell.lst [.str "x",.str "n1",.str "counter1",.str "e"]]) 0:=h0.kp (Ks.new _ _)
 generalize M++[Cell.lst [.str "x",.str "n1",.str "counter1",.str "e"]]=M1 at h1
 try walk_at "ev"
 refine⟨0,1,rfl,h1,fun v1=>?_⟩
 try walk_at "ev"
 refine⟨⟨by decide,by decide,by decide⟩,mulL (by decide) (by decide),by decide,⟨by decide,by decide,by decide⟩,?_⟩
 have go:∀s:Int,tss ⟨K,Γ,G⟩ noX Fq {nx:=fun _ M=>Q .non M,rt:=Q} [some (.ref 0),some (.str x),some (.int s),none,none,none,none,none,none,none,none,none,none,none] M1:=by
  intro s
  delta Fq
  walk_at "ev"
  refine⟨0,2,rfl,h1,by decide,fun v hv=>?_⟩
  try walk_at "ev"
  rw[qd (by decide),qm (by decide)]
  obtain⟨m0,hm0,em0⟩:=X4 ((v:Int) / 8) (show 0<50 by decide)
  rw[show((50:Nat):Int)=50 from rfl] at em0
  rw[em0,show(1:Int)+(m0:Int)=((1+m0:Nat):Int) by omega]
  refine⟨Yi (by decide) (by decide),?_⟩
  try walk_at "ev"
  refine⟨0,12,rfl,h1,by decide,fun v2 hv2=>?_⟩
  try walk_at "ev"
  rw[qd (by decide),qm (by decide)]
  refine⟨Yi (by decide) (by decide),?_⟩
  try walk_at "ev"
  split
  ·refine⟨0,12,rfl,h1,by decide,fun v3 hv3=>?_⟩
   try walk_at "ev"
   rw[qd (by decide),qm (by decide)]
   obtain⟨m1,hm1,em1⟩:=X4 ((v3:Int) / 64) (show 0<900 by decide)
   rw[show((900:Nat):Int)=900 from rfl] at em1
   rw[em1,show(600:Int)+(m1:Int)=((600+m1:Nat):Int) by omega]
   refine⟨Yi (by decide) (by decide),?_⟩
   try walk_at "ev"
   exact law5 g21 g22 g23 g24 g25 g26 g27 g28 g29 g30 g31 g34 q hx hx2 (by omega) (by omega) h1
  ·try walk_at "ev"
   exact law5 g21 g22 g23 g24 g25 g26 g27 g28 g29 g30 g31 g34 q hx hx2 (by omega) (by omega) h1
 try walk_at "ev"
 refine⟨0,0,rfl,h1,by decide,fun v2 hv2=>?_⟩
 try walk_at "ev"
 rw[qd (by decide),qm (by decide)]
 refine⟨Yi (by decide) (by decide),?_⟩
 try walk_at "ev"
 split
 ·try walk_at "ev"
  exact go _
 ·try walk_at "ev"
  exact go _
end
set_option maxHeartbeats 0 in
theorem Y48{P:Program}{w:World}{K:Ab}{mg:Str→Option Value}{base:Heap}{t:Adr}(T:Tx K mg t):FnOk P w K mg base (CX1 P w) 37 t.a_law t.d_law ["_law_script"] (spF K Bt):=by
 have PZ:Prg P w K mg base ⟨K,[bot,bot,bot,bot,bot,bot,bot,bot,bot,bot,bot,bot,bot,bot,bot,bot,bot,bot,bot,bot,bot,bot,bot,bot,bot,bot,bot,bot,bot,bot,bot,bot,bot,bot,bot],[.cls t.a_JumpError,.cls t.a_ByNought,.gtup [.str "else"],.gtup [.str "done"],.gtup [.str "choice",.str "round",.str "part"]]⟩ FN GN BN 0:=Prg.zero (ents T) rfl (by intro sp h;simp only[Aw,Ha,or_false,or_self] at h;exact h) (fun g x d h1 h2=>match g,h1,h2 with | 0,h1,h2=>by cases h1;cases h2;exact⟨.ref _,.ref _,T.g_JumpError,rfl,fun w _=>Ov.mpr rfl⟩ | 1,h1,h2=>by cases h1;cases h2;exact⟨.ref _,.ref _,T.g_ByNought,rfl,fun w _=>Ov.mpr rfl⟩ | 2,h1,h2=>by cases h1;cases h2;obtain⟨a,e,r⟩:=T.q_ELSE;exact⟨.ref a,_,e,rfl,fun w hw=>S6.mpr ⟨a,_,rfl,.inr (by rw[hw];exact r),(RDs.cons (Yg.mpr rfl) (RDs.nil w))⟩⟩ | 3,h1,h2=>by cases h1;cases h2;obtain⟨a,e,r⟩:=T.q_DONE;exact⟨.ref a,_,e,rfl,fun w hw=>S6.mpr ⟨a,_,rfl,.inr (by rw[hw];exact r),(RDs.cons (Yg.mpr rfl) (RDs.nil w))⟩⟩ | 4,h1,h2=>by cases h1;cases h2;obtain⟨a,e,r⟩:=T.q_OPENERS;exact⟨.ref a,_,e,rfl,fun w hw=>S6.mpr ⟨a,_,rfl,.inr (by rw[hw];exact r),(RDs.cons (Yg.mpr rfl) (RDs.cons (Yg.mpr rfl) (RDs.cons (Yg.mpr rfl) (RDs.nil w))))⟩⟩ | n+5,h1,h2=>by cases h2) (blts T)
 have P0:=PZ.up (show 0≤2 by decide)
 have F0:=fn0 P0 T.F_line_of Z41 Z78 (sp:=Zb) (by rintro _ _ _ _ ⟨_,_,_,rfl,_⟩;rfl) Z60
 have P1:Prg P w K mg base ⟨K,[Zb,bot,bot,bot,bot,bot,bot,bot,bot,bot,bot,bot,bot,bot,bot,bot,bot,bot,bot,bot,bot,bot,bot,bot,bot,bot,bot,bot,bot,bot,bot,bot,bot,bot,bot],[.cls t.a_JumpError,.cls t.a_ByNought,.gtup [.str "else"],.gtup [.str "done"],.gtup [.str "choice",.str "round",.str "part"]]⟩ FN GN BN 3:=P0.add 0 (x:="line_of") rfl F0 (Nat.le_refl _) (Nat.le_succ _) T.g_line_of T.k_line_of T.b_line_of
 have F1:=fn0 P1 T.F_told_within Pk Nb (sp:=Zy) (by rintro _ _ _ _ ⟨_,_,_,rfl,_⟩;rfl) (Ox rfl rfl)
 have P2:Prg P w K mg base ⟨K,[Zb,Zy,bot,bot,bot,bot,bot,bot,bot,bot,bot,bot,bot,bot,bot,bot,bot,bot,bot,bot,bot,bot,bot,bot,bot,bot,bot,bot,bot,bot,bot,bot,bot,bot,bot],[.cls t.a_JumpError,.cls t.a_ByNought,.gtup [.str "else"],.gtup [.str "done"],.gtup [.str "choice",.str "round",.str "part"]]⟩ FN GN BN 4:=P1.add 1 (x:="told_within") rfl F1 (Nat.le_refl _) (Nat.le_succ _) T.g_told_within T.k_told_within T.b_told_within
 have F2:=fn0 P2 T.F_lines_of El Bo (sp:=Z7) (by rintro _ _ _ _ ⟨_,_,_,_,rfl,_⟩;rfl) (Z07 rfl rfl)
 have P3:Prg P w K mg base ⟨K,[Zb,Zy,Z7,bot,bot,bot,bot,bot,bot,bot,bot,bot,bot,bot,bot,bot,bot,bot,bot,bot,bot,bot,bot,bot,bot,bot,bot,bot,bot,bot,bot,bot,bot,bot,bot],[.cls t.a_JumpError,.cls t.a_ByNought,.gtup [.str "else"],.gtup [.str "done"],.gtup [.str "choice",.str "round",.str "part"]]⟩ FN GN BN 5:=P2.add 2 (x:="lines_of") rfl F2 (Nat.le_refl _) (Nat.le_succ _) T.g_lines_of T.k_lines_of T.b_lines_of
 have F3:=fn0 P3 T.F_with_goal Fj Fs (sp:=Y2) (by rintro _ _ _ _ ⟨_,_,_,_,_,rfl,_⟩;rfl) Ek
 have P4:Prg P w K mg base ⟨K,[Zb,Zy,Z7,Y2,bot,bot,bot,bot,bot,bot,bot,bot,bot,bot,bot,bot,bot,bot,bot,bot,bot,bot,bot,bot,bot,bot,bot,bot,bot,bot,bot,bot,bot,bot,bot],[.cls t.a_JumpError,.cls t.a_ByNought,.gtup [.str "else"],.gtup [.str "done"],.gtup [.str "choice",.str "round",.str "part"]]⟩ FN GN BN 6:=P3.add 3 (x:="with_goal") rfl F3 (Nat.le_refl _) (Nat.le_succ _) T.g_with_goal T.k_with_goal T.b_with_goal
 have F4:=fn0 P4 T.F_begin_rows N7 Gp (sp:=Zm) (by rintro _ _ _ _ ⟨_,_,_,_,_,_,_,rfl,_⟩;rfl) Jn
 have P5:Prg P w K mg base ⟨K,[Zb,Zy,Z7,Y2,Zm,bot,bot,bot,bot,bot,bot,bot,bot,bot,bot,bot,bot,bot,bot,bot,bot,bot,bot,bot,bot,bot,bot,bot,bot,bot,bot,bot,bot,bot,bot],[.cls t.a_JumpError,.cls t.a_ByNought,.gtup [.str "else"],.gtup [.str "done"],.gtup [.str "choice",.str "round",.str "part"]]⟩ FN GN BN 7:=P4.add 4 (x:="begin_rows") rfl F4 (Nat.le_refl _) (Nat.le_succ _) T.g_begin_rows T.k_begin_rows T.b_begin_rows
 have F5:=fn0 P5 T.F_begin_no E8 Z16 (sp:=Z9) (by rintro _ _ _ _ ⟨_,_,_,_,_,_,_,rfl,_⟩;rfl) Z38
 have P6:Prg P w K mg base ⟨K,[Zb,Zy,Z7,Y2,Zm,Z9,bot,bot,bot,bot,bot,bot,bot,bot,bot,bot,bot,bot,bot,bot,bot,bot,bot,bot,bot,bot,bot,bot,bot,bot,bot,bot,bot,bot,bot],[.cls t.a_JumpError,.cls t.a_ByNought,.gtup [.str "else"],.gtup [.str "done"],.gtup [.str "choice",.str "round",.str "part"]]⟩ FN GN BN 8:=P5.add 5 (x:="begin_no") rfl F5 (Nat.le_refl _) (Nat.le_succ _) T.g_begin_no T.k_begin_no T.b_begin_no
 have F6:=fn0 P6 T.F_finish_rows Po Nk (sp:=Ze) (by rintro _ _ _ _ ⟨_,_,_,_,_,_,_,rfl,_⟩;rfl) N8
 have P7:Prg P w K mg base ⟨K,[Zb,Zy,Z7,Y2,Zm,Z9,Ze,bot,bot,bot,bot,bot,bot,bot,bot,bot,bot,bot,bot,bot,bot,bot,bot,bot,bot,bot,bot,bot,bot,bot,bot,bot,bot,bot,bot],[.cls t.a_JumpError,.cls t.a_ByNought,.gtup [.str "else"],.gtup [.str "done"],.gtup [.str "choice",.str "round",.str "part"]]⟩ FN GN BN 9:=P6.add 6 (x:="finish_rows") rfl F6 (Nat.le_refl _) (Nat.le_succ _) T.g_finish_rows T.k_finish_rows T.b_finish_rows
 have F7:=fn0 P7 T.F_rows_of Bl Z68 (sp:=Zg) (by rintro _ _ _ _ ⟨_,_,_,_,_,_,rfl,_⟩;rfl) (Zb5 rfl rfl rfl rfl rfl rfl rfl rfl)
 have P8:Prg P w K mg base ⟨K,[Zb,Zy,Z7,Y2,Zm,Z9,Ze,Zg,bot,bot,bot,bot,bot,bot,bot,bot,bot,bot,bot,bot,bot,bot,bot,bot,bot,bot,bot,bot,bot,bot,bot,bot,bot,bot,bot],[.cls t.a_JumpError,.cls t.a_ByNought,.gtup [.str "else"],.gtup [.str "done"],.gtup [.str "choice",.str "round",.str "part"]]⟩ FN GN BN 10:=P7.add 7 (x:="rows_of") rfl F7 (Nat.le_refl _) (Nat.le_succ _) T.g_rows_of T.k_rows_of T.b_rows_of
 have F8:=fn1 P8 (PrgR.one rfl T.mk_ByNought (T.i_ok _ _ _ _) (by decide) T.i_b1 T.i_b0 T.set_ByNought) T.F_quotient Ed Bm (sp:=Z5 t.a_ByNought) (by rintro _ _ _ _ ⟨_,rfl,_⟩;rfl) Z25
 have P9:Prg P w K mg base ⟨K,[Zb,Zy,Z7,Y2,Zm,Z9,Ze,Zg,Z5 t.a_ByNought,bot,bot,bot,bot,bot,bot,bot,bot,bot,bot,bot,bot,bot,bot,bot,bot,bot,bot,bot,bot,bot,bot,bot,bot,bot,bot],[.cls t.a_JumpError,.cls t.a_ByNought,.gtup [.str "else"],.gtup [.str "done"],.gtup [.str "choice",.str "round",.str "part"]]⟩ FN GN BN 11:=P8.add 8 (x:="quotient") rfl F8 (Nat.le_refl _) (Nat.le_succ _) T.g_quotient T.k_quotient T.b_quotient
 have F9:=fn1 P9 (PrgR.one rfl T.mk_ByNought (T.i_ok _ _ _ _) (by decide) T.i_b1 T.i_b0 T.set_ByNought) T.F_rest Zt5 Y85 (sp:=Z5 t.a_ByNought) (by rintro _ _ _ _ ⟨_,rfl,_⟩;rfl) Yb9
 have P10:Prg P w K mg base ⟨K,[Zb,Zy,Z7,Y2,Zm,Z9,Ze,Zg,Z5 t.a_ByNought,Z5 t.a_ByNought,bot,bot,bot,bot,bot,bot,bot,bot,bot,bot,bot,bot,bot,bot,bot,bot,bot,bot,bot,bot,bot,bot,bot,bot,bot],[.cls t.a_JumpError,.cls t.a_ByNought,.gtup [.str "else"],.gtup [.str "done"],.gtup [.str "choice",.str "round",.str "part"]]⟩ FN GN BN 12:=P9.add 9 (x:="rest") rfl F9 (Nat.le_refl _) (Nat.le_succ _) T.g_rest T.k_rest T.b_rest
 have F10:=fn1 P10 PrgR.none T.F_made Y18 Y45 (sp:=Ym t.a_ByNought) (by rintro _ _ _ _ ⟨_,_,_,rfl,_⟩;rfl) (Yb7 rfl rfl)
 have P11:Prg P w K mg base ⟨K,[Zb,Zy,Z7,Y2,Zm,Z9,Ze,Zg,Z5 t.a_ByNought,Z5 t.a_ByNought,Ym t.a_ByNought,bot,bot,bot,bot,bot,bot,bot,bot,bot,bot,bot,bot,bot,bot,bot,bot,bot,bot,bot,bot,bot,bot,bot,bot],[.cls t.a_JumpError,.cls t.a_ByNought,.gtup [.str "else"],.gtup [.str "done"],.gtup [.str "choice",.str "round",.str "part"]]⟩ FN GN BN 13:=P10.add 10 (x:="made") rfl F10 (Nat.le_refl _) (Nat.le_succ _) T.g_made T.k_made T.b_made
 have F11:=fn0 P11 T.F_holds Zo4 Zz3 (sp:=Y0) (by rintro _ _ _ _ ⟨_,_,rfl,_⟩;rfl) Y07
 have P12:Prg P w K mg base ⟨K,[Zb,Zy,Z7,Y2,Zm,Z9,Ze,Zg,Z5 t.a_ByNought,Z5 t.a_ByNought,Ym t.a_ByNought,Y0,bot,bot,bot,bot,bot,bot,bot,bot,bot,bot,bot,bot,bot,bot,bot,bot,bot,bot,bot,bot,bot,bot,bot],[.cls t.a_JumpError,.cls t.a_ByNought,.gtup [.str "else"],.gtup [.str "done"],.gtup [.str "choice",.str "round",.str "part"]]⟩ FN GN BN 14:=P11.add 11 (x:="holds") rfl F11 (Nat.le_refl _) (Nat.le_succ _) T.g_holds T.k_holds T.b_holds
 have F12:=fn0 P12 T.F_worth Zm6 Zt0 (sp:=Zz) (by rintro _ _ _ _ ⟨_,_,_,_,rfl,_⟩;rfl) Zv2
 have P13:Prg P w K mg base ⟨K,[Zb,Zy,Z7,Y2,Zm,Z9,Ze,Zg,Z5 t.a_ByNought,Z5 t.a_ByNought,Ym t.a_ByNought,Y0,Zz,bot,bot,bot,bot,bot,bot,bot,bot,bot,bot,bot,bot,bot,bot,bot,bot,bot,bot,bot,bot,bot,bot],[.cls t.a_JumpError,.cls t.a_ByNought,.gtup [.str "else"],.gtup [.str "done"],.gtup [.str "choice",.str "round",.str "part"]]⟩ FN GN BN 15:=P12.add 12 (x:="worth") rfl F12 (Nat.le_refl _) (Nat.le_succ _) T.g_worth T.k_worth T.b_worth
 have F13:=fn1 P13 PrgR.none T.F_deed_of_sum Ps Jd (sp:=Zi t.a_ByNought) (by rintro _ _ _ _ ⟨_,_,_,_,_,_,_,_,rfl,_⟩;rfl) (N3 rfl rfl)
 have P14:Prg P w K mg base ⟨K,[Zb,Zy,Z7,Y2,Zm,Z9,Ze,Zg,Z5 t.a_ByNought,Z5 t.a_ByNought,Ym t.a_ByNought,Y0,Zz,Zi t.a_ByNought,bot,bot,bot,bot,bot,bot,bot,bot,bot,bot,bot,bot,bot,bot,bot,bot,bot,bot,bot,bot,bot],[.cls t.a_JumpError,.cls t.a_ByNought,.gtup [.str "else"],.gtup [.str "done"],.gtup [.str "choice",.str "round",.str "part"]]⟩ FN GN BN 16:=P13.add 13 (x:="deed_of_sum") rfl F13 (Nat.le_refl _) (Nat.le_succ _) T.g_deed_of_sum T.k_deed_of_sum T.b_deed_of_sum
 have F14:=fn0 P14 T.F_deed_of_test Qp Pt (sp:=Zc) (by rintro _ _ _ _ ⟨_,_,_,_,_,_,rfl,_⟩;rfl) (Pm rfl rfl)
 have P15:Prg P w K mg base ⟨K,[Zb,Zy,Z7,Y2,Zm,Z9,Ze,Zg,Z5 t.a_ByNought,Z5 t.a_ByNought,Ym t.a_ByNought,Y0,Zz,Zi t.a_ByNought,Zc,bot,bot,bot,bot,bot,bot,bot,bot,bot,bot,bot,bot,bot,bot,bot,bot,bot,bot,bot,bot],[.cls t.a_JumpError,.cls t.a_ByNought,.gtup [.str "else"],.gtup [.str "done"],.gtup [.str "choice",.str "round",.str "part"]]⟩ FN GN BN 17:=P14.add 14 (x:="deed_of_test") rfl F14 (Nat.le_refl _) (Nat.le_succ _) T.g_deed_of_test T.k_deed_of_test T.b_deed_of_test
 have F15:=fn0 P15 T.F_behind Z98 Zi0 (sp:=Zt) (by rintro _ _ _ _ ⟨_,_,_,rfl,_⟩;rfl) Zh7
 have P16:Prg P w K mg base ⟨K,[Zb,Zy,Z7,Y2,Zm,Z9,Ze,Zg,Z5 t.a_ByNought,Z5 t.a_ByNought,Ym t.a_ByNought,Y0,Zz,Zi t.a_ByNought,Zc,Zt,bot,bot,bot,bot,bot,bot,bot,bot,bot,bot,bot,bot,bot,bot,bot,bot,bot,bot,bot],[.cls t.a_JumpError,.cls t.a_ByNought,.gtup [.str "else"],.gtup [.str "done"],.gtup [.str "choice",.str "round",.str "part"]]⟩ FN GN BN 18:=P15.add 15 (x:="behind") rfl F15 (Nat.le_refl _) (Nat.le_succ _) T.g_behind T.k_behind T.b_behind
 have F16:=fn1 P16 PrgR.none T.F_deed_of Z18 Z90 (sp:=Zw t.a_ByNought) (by rintro _ _ _ _ ⟨_,_,_,rfl,_⟩;rfl) (Zf2 rfl rfl)
 have P17:Prg P w K mg base ⟨K,[Zb,Zy,Z7,Y2,Zm,Z9,Ze,Zg,Z5 t.a_ByNought,Z5 t.a_ByNought,Ym t.a_ByNought,Y0,Zz,Zi t.a_ByNought,Zc,Zt,Zw t.a_ByNought,bot,bot,bot,bot,bot,bot,bot,bot,bot,bot,bot,bot,bot,bot,bot,bot,bot,bot],[.cls t.a_JumpError,.cls t.a_ByNought,.gtup [.str "else"],.gtup [.str "done"],.gtup [.str "choice",.str "round",.str "part"]]⟩ FN GN BN 19:=P16.add 16 (x:="deed_of") rfl F16 (Nat.le_refl _) (Nat.le_succ _) T.g_deed_of T.k_deed_of T.b_deed_of
 have F17:=fn0 P17 T.F_run_from E7 Z09 (sp:=Zr) (by rintro _ _ _ _ ⟨_,_,_,_,_,_,_,_,_,rfl,_⟩;rfl) (Z14 T.co_ByNought rfl rfl)
 have P18:Prg P w K mg base ⟨K,[Zb,Zy,Z7,Y2,Zm,Z9,Ze,Zg,Z5 t.a_ByNought,Z5 t.a_ByNought,Ym t.a_ByNought,Y0,Zz,Zi t.a_ByNought,Zc,Zt,Zw t.a_ByNought,Zr,bot,bot,bot,bot,bot,bot,bot,bot,bot,bot,bot,bot,bot,bot,bot,bot,bot],[.cls t.a_JumpError,.cls t.a_ByNought,.gtup [.str "else"],.gtup [.str "done"],.gtup [.str "choice",.str "round",.str "part"]]⟩ FN GN BN 20:=P17.add 17 (x:="run_from") rfl F17 (Nat.le_refl _) (Nat.le_succ _) T.g_run_from T.k_run_from T.b_run_from
 have F18:=fn0 P18 T.F_landings Fp Z10 (sp:=Zl) (by rintro _ _ _ _ ⟨_,_,_,_,_,rfl,_⟩;rfl) Bu
 have P19:Prg P w K mg base ⟨K,[Zb,Zy,Z7,Y2,Zm,Z9,Ze,Zg,Z5 t.a_ByNought,Z5 t.a_ByNought,Ym t.a_ByNought,Y0,Zz,Zi t.a_ByNought,Zc,Zt,Zw t.a_ByNought,Zr,Zl,bot,bot,bot,bot,bot,bot,bot,bot,bot,bot,bot,bot,bot,bot,bot,bot],[.cls t.a_JumpError,.cls t.a_ByNought,.gtup [.str "else"],.gtup [.str "done"],.gtup [.str "choice",.str "round",.str "part"]]⟩ FN GN BN 21:=P18.add 18 (x:="landings") rfl F18 (Nat.le_refl _) (Nat.le_succ _) T.g_landings T.k_landings T.b_landings
 have F19:=fn0 P19 T.F_linked Z92 Zj3 (sp:=Y8) (by rintro _ _ _ _ ⟨_,_,rfl,_⟩;rfl) (Zo1 rfl)
 have P20:Prg P w K mg base ⟨K,[Zb,Zy,Z7,Y2,Zm,Z9,Ze,Zg,Z5 t.a_ByNought,Z5 t.a_ByNought,Ym t.a_ByNought,Y0,Zz,Zi t.a_ByNought,Zc,Zt,Zw t.a_ByNought,Zr,Zl,Y8,bot,bot,bot,bot,bot,bot,bot,bot,bot,bot,bot,bot,bot,bot,bot],[.cls t.a_JumpError,.cls t.a_ByNought,.gtup [.str "else"],.gtup [.str "done"],.gtup [.str "choice",.str "round",.str "part"]]⟩ FN GN BN 22:=P19.add 19 (x:="linked") rfl F19 (Nat.le_refl _) (Nat.le_succ _) T.g_linked T.k_linked T.b_linked
 have F20:=fn0 P20 T.F_run Y40 Ye2 (sp:=X5) (by rintro _ _ _ _ ⟨_,_,_,_,_,_,_,_,_,rfl,_⟩;rfl) (Yd5 rfl rfl)
 have P21:Prg P w K mg base ⟨K,[Zb,Zy,Z7,Y2,Zm,Z9,Ze,Zg,Z5 t.a_ByNought,Z5 t.a_ByNought,Ym t.a_ByNought,Y0,Zz,Zi t.a_ByNought,Zc,Zt,Zw t.a_ByNought,Zr,Zl,Y8,X5,bot,bot,bot,bot,bot,bot,bot,bot,bot,bot,bot,bot,bot,bot],[.cls t.a_JumpError,.cls t.a_ByNought,.gtup [.str "else"],.gtup [.str "done"],.gtup [.str "choice",.str "round",.str "part"]]⟩ FN GN BN 23:=P20.add 20 (x:="run") rfl F20 (Nat.le_refl _) (Nat.le_succ _) T.g_run T.k_run T.b_run
 obtain⟨tk20,eb20⟩:=T.e_run
 have P21d:Prg P w K mg base ⟨K,[Zb,Zy,Z7,Y2,Zm,Z9,Ze,Zg,Z5 t.a_ByNought,Z5 t.a_ByNought,Ym t.a_ByNought,Y0,Zz,Zi t.a_ByNought,Zc,Zt,Zw t.a_ByNought,Zr,Zl,Y8,X5,bot,bot,bot,bot,bot,bot,bot,bot,bot,bot,bot,bot,(fun as M Q Z=>X5 (as++[.int 100]) M Q Z),bot],[.cls t.a_JumpError,.cls t.a_ByNought,.gtup [.str "else"],.gtup [.str "done"],.gtup [.str "choice",.str "round",.str "part"]]⟩ FN GN BN 23:=P21.addD 33 (x:="run") rfl F20 (Nat.le_refl _) (Nat.le_refl _) T.g_run T.k_run eb20 (dD:=[.int 100]) (dvs:=[.int 100]) (.cons ⟨_,rfl⟩ .nil) (fun w _=>RDs.cons (Zj.mpr rfl) (RDs.nil w))
 have F21:=fn0 P21d T.F_run_form Eg Z33 (sp:=Z8) (by rintro _ _ _ _ ⟨_,_,_,_,_,_,_,_,_,_,_,rfl,_⟩;rfl) (Z13 rfl rfl)
 have P22:Prg P w K mg base ⟨K,[Zb,Zy,Z7,Y2,Zm,Z9,Ze,Zg,Z5 t.a_ByNought,Z5 t.a_ByNought,Ym t.a_ByNought,Y0,Zz,Zi t.a_ByNought,Zc,Zt,Zw t.a_ByNought,Zr,Zl,Y8,X5,Z8,bot,bot,bot,bot,bot,bot,bot,bot,bot,bot,bot,(fun as M Q Z=>X5 (as++[.int 100]) M Q Z),bot],[.cls t.a_JumpError,.cls t.a_ByNought,.gtup [.str "else"],.gtup [.str "done"],.gtup [.str "choice",.str "round",.str "part"]]⟩ FN GN BN 24:=P21d.add 21 (x:="run_form") rfl F21 (Nat.le_refl _) (Nat.le_succ _) T.g_run_form T.k_run_form T.b_run_form
 obtain⟨tk21,eb21⟩:=T.e_run_form
 have P22d:Prg P w K mg base ⟨K,[Zb,Zy,Z7,Y2,Zm,Z9,Ze,Zg,Z5 t.a_ByNought,Z5 t.a_ByNought,Ym t.a_ByNought,Y0,Zz,Zi t.a_ByNought,Zc,Zt,Zw t.a_ByNought,Zr,Zl,Y8,X5,Z8,bot,bot,bot,bot,bot,bot,bot,bot,bot,bot,bot,(fun as M Q Z=>X5 (as++[.int 100]) M Q Z),(fun as M Q Z=>Z8 (as++[.int 100]) M Q Z)],[.cls t.a_JumpError,.cls t.a_ByNought,.gtup [.str "else"],.gtup [.str "done"],.gtup [.str "choice",.str "round",.str "part"]]⟩ FN GN BN 24:=P22.addD 34 (x:="run_form") rfl F21 (Nat.le_refl _) (Nat.le_refl _) T.g_run_form T.k_run_form eb21 (dD:=[.int 100]) (dvs:=[.int 100]) (.cons ⟨_,rfl⟩ .nil) (fun w _=>RDs.cons (Zj.mpr rfl) (RDs.nil w))
 have F22:=fn0 P22d T.F_Lraw Zu3 Y35 (sp:=Vh) (by rintro _ _ _ _ ⟨_,_,rfl,_⟩;rfl) Y58
 have P23:Prg P w K mg base ⟨K,[Zb,Zy,Z7,Y2,Zm,Z9,Ze,Zg,Z5 t.a_ByNought,Z5 t.a_ByNought,Ym t.a_ByNought,Y0,Zz,Zi t.a_ByNought,Zc,Zt,Zw t.a_ByNought,Zr,Zl,Y8,X5,Z8,Vh,bot,bot,bot,bot,bot,bot,bot,bot,bot,bot,(fun as M Q Z=>X5 (as++[.int 100]) M Q Z),(fun as M Q Z=>Z8 (as++[.int 100]) M Q Z)],[.cls t.a_JumpError,.cls t.a_ByNought,.gtup [.str "else"],.gtup [.str "done"],.gtup [.str "choice",.str "round",.str "part"]]⟩ FN GN BN 25:=P22d.add 22 (x:="_law_raw") rfl F22 (Nat.le_refl _) (Nat.le_succ _) T.g_Lraw T.k_Lraw T.b_Lraw
 have F23:=fn0 P23 T.F_Lmix Zw2 Y78 (sp:=Tn) (by rintro _ _ _ _ ⟨_,_,rfl,_⟩;rfl) (Ya5 rfl)
 have P24:Prg P w K mg base ⟨K,[Zb,Zy,Z7,Y2,Zm,Z9,Ze,Zg,Z5 t.a_ByNought,Z5 t.a_ByNought,Ym t.a_ByNought,Y0,Zz,Zi t.a_ByNought,Zc,Zt,Zw t.a_ByNought,Zr,Zl,Y8,X5,Z8,Vh,Tn,bot,bot,bot,bot,bot,bot,bot,bot,bot,(fun as M Q Z=>X5 (as++[.int 100]) M Q Z),(fun as M Q Z=>Z8 (as++[.int 100]) M Q Z)],[.cls t.a_JumpError,.cls t.a_ByNought,.gtup [.str "else"],.gtup [.str "done"],.gtup [.str "choice",.str "round",.str "part"]]⟩ FN GN BN 26:=P23.add 23 (x:="_law_mix") rfl F23 (Nat.le_refl _) (Nat.le_succ _) T.g_Lmix T.k_Lmix T.b_Lmix
 have F24_0:=fn0 P24 T.F_Lalike Qh J2 (sp:=(Yh 0)) (by rintro _ _ _ _ ⟨_,_,rfl,_⟩;rfl) Ze1
 have P25_0:Prg P w K mg base ⟨K,[Zb,Zy,Z7,Y2,Zm,Z9,Ze,Zg,Z5 t.a_ByNought,Z5 t.a_ByNought,Ym t.a_ByNought,Y0,Zz,Zi t.a_ByNought,Zc,Zt,Zw t.a_ByNought,Zr,Zl,Y8,X5,Z8,Vh,Tn,(Yh 0),bot,bot,bot,bot,bot,bot,bot,bot,(fun as M Q Z=>X5 (as++[.int 100]) M Q Z),(fun as M Q Z=>Z8 (as++[.int 100]) M Q Z)],[.cls t.a_JumpError,.cls t.a_ByNought,.gtup [.str "else"],.gtup [.str "done"],.gtup [.str "choice",.str "round",.str "part"]]⟩ FN GN BN 27:=P24.add 24 (x:="_law_alike") rfl F24_0 (Nat.le_refl _) (Nat.le_succ _) T.g_Lalike T.k_Lalike T.b_Lalike
 have F24_1:=fn0 P25_0 T.F_Lalike Qh J2 (sp:=(Yh 1)) (by rintro _ _ _ _ ⟨_,_,rfl,_⟩;rfl) (Gi rfl)
 have P25_1:Prg P w K mg base ⟨K,[Zb,Zy,Z7,Y2,Zm,Z9,Ze,Zg,Z5 t.a_ByNought,Z5 t.a_ByNought,Ym t.a_ByNought,Y0,Zz,Zi t.a_ByNought,Zc,Zt,Zw t.a_ByNought,Zr,Zl,Y8,X5,Z8,Vh,Tn,(Yh 1),bot,bot,bot,bot,bot,bot,bot,bot,(fun as M Q Z=>X5 (as++[.int 100]) M Q Z),(fun as M Q Z=>Z8 (as++[.int 100]) M Q Z)],[.cls t.a_JumpError,.cls t.a_ByNought,.gtup [.str "else"],.gtup [.str "done"],.gtup [.str "choice",.str "round",.str "part"]]⟩ FN GN BN 28:=P25_0.add 24 (x:="_law_alike") rfl F24_1 (Nat.le_refl _) (Nat.le_succ _) T.g_Lalike T.k_Lalike T.b_Lalike
 have F24_2:=fn0 P25_1 T.F_Lalike Qh J2 (sp:=(Yh 2)) (by rintro _ _ _ _ ⟨_,_,rfl,_⟩;rfl) (Gi rfl)
 have P25:Prg P w K mg base ⟨K,[Zb,Zy,Z7,Y2,Zm,Z9,Ze,Zg,Z5 t.a_ByNought,Z5 t.a_ByNought,Ym t.a_ByNought,Y0,Zz,Zi t.a_ByNought,Zc,Zt,Zw t.a_ByNought,Zr,Zl,Y8,X5,Z8,Vh,Tn,(Yh 2),bot,bot,bot,bot,bot,bot,bot,bot,(fun as M Q Z=>X5 (as++[.int 100]) M Q Z),(fun as M Q Z=>Z8 (as++[.int 100]) M Q Z)],[.cls t.a_JumpError,.cls t.a_ByNought,.gtup [.str "else"],.gtup [.str "done"],.gtup [.str "choice",.str "round",.str "part"]]⟩ FN GN BN 29:=P25_1.add 24 (x:="_law_alike") rfl F24_2 (Nat.le_refl _) (Nat.le_succ _) T.g_Lalike T.k_Lalike T.b_Lalike
 have F25:=fn0 P25 T.F_Lsame_memory Qf Pn (sp:=Wh) (by rintro _ _ _ _ ⟨_,_,_,rfl,_⟩;rfl) (Y14 rfl)
 have P26:Prg P w K mg base ⟨K,[Zb,Zy,Z7,Y2,Zm,Z9,Ze,Zg,Z5 t.a_ByNought,Z5 t.a_ByNought,Ym t.a_ByNought,Y0,Zz,Zi t.a_ByNought,Zc,Zt,Zw t.a_ByNought,Zr,Zl,Y8,X5,Z8,Vh,Tn,(Yh 2),Wh,bot,bot,bot,bot,bot,bot,bot,(fun as M Q Z=>X5 (as++[.int 100]) M Q Z),(fun as M Q Z=>Z8 (as++[.int 100]) M Q Z)],[.cls t.a_JumpError,.cls t.a_ByNought,.gtup [.str "else"],.gtup [.str "done"],.gtup [.str "choice",.str "round",.str "part"]]⟩ FN GN BN 30:=P25.add 25 (x:="_law_same_memory") rfl F25 (Nat.le_refl _) (Nat.le_succ _) T.g_Lsame_memory T.k_Lsame_memory T.b_Lsame_memory
 have F26:=fn0 P26 T.F_Lcounting Jq E9 (sp:=Yz) (by rintro _ _ _ _ ⟨_,_,_,rfl,_⟩;rfl) Eh
 have P27:Prg P w K mg base ⟨K,[Zb,Zy,Z7,Y2,Zm,Z9,Ze,Zg,Z5 t.a_ByNought,Z5 t.a_ByNought,Ym t.a_ByNought,Y0,Zz,Zi t.a_ByNought,Zc,Zt,Zw t.a_ByNought,Zr,Zl,Y8,X5,Z8,Vh,Tn,(Yh 2),Wh,Yz,bot,bot,bot,bot,bot,bot,(fun as M Q Z=>X5 (as++[.int 100]) M Q Z),(fun as M Q Z=>Z8 (as++[.int 100]) M Q Z)],[.cls t.a_JumpError,.cls t.a_ByNought,.gtup [.str "else"],.gtup [.str "done"],.gtup [.str "choice",.str "round",.str "part"]]⟩ FN GN BN 31:=P26.add 26 (x:="_law_counting") rfl F26 (Nat.le_refl _) (Nat.le_succ _) T.g_Lcounting T.k_Lcounting T.b_Lcounting
 have F27:=fn0 P27 T.F_Lspin Zl6 Zu7 (sp:=Sb) (by rintro _ _ _ _ ⟨_,_,rfl,_⟩;rfl) Zz8
 have P28:Prg P w K mg base ⟨K,[Zb,Zy,Z7,Y2,Zm,Z9,Ze,Zg,Z5 t.a_ByNought,Z5 t.a_ByNought,Ym t.a_ByNought,Y0,Zz,Zi t.a_ByNought,Zc,Zt,Zw t.a_ByNought,Zr,Zl,Y8,X5,Z8,Vh,Tn,(Yh 2),Wh,Yz,Sb,bot,bot,bot,bot,bot,(fun as M Q Z=>X5 (as++[.int 100]) M Q Z),(fun as M Q Z=>Z8 (as++[.int 100]) M Q Z)],[.cls t.a_JumpError,.cls t.a_ByNought,.gtup [.str "else"],.gtup [.str "done"],.gtup [.str "choice",.str "round",.str "part"]]⟩ FN GN BN 32:=P27.add 27 (x:="_law_spin") rfl F27 (Nat.le_refl _) (Nat.le_succ _) T.g_Lspin T.k_Lspin T.b_Lspin
 have F28:=fn0 P28 T.F_Llast Zj4 Zt7 (sp:=Rn) (by rintro _ _ _ _ ⟨_,_,_,_,rfl,_⟩;rfl) Zu6
 have P29:Prg P w K mg base ⟨K,[Zb,Zy,Z7,Y2,Zm,Z9,Ze,Zg,Z5 t.a_ByNought,Z5 t.a_ByNought,Ym t.a_ByNought,Y0,Zz,Zi t.a_ByNought,Zc,Zt,Zw t.a_ByNought,Zr,Zl,Y8,X5,Z8,Vh,Tn,(Yh 2),Wh,Yz,Sb,Rn,bot,bot,bot,bot,(fun as M Q Z=>X5 (as++[.int 100]) M Q Z),(fun as M Q Z=>Z8 (as++[.int 100]) M Q Z)],[.cls t.a_JumpError,.cls t.a_ByNought,.gtup [.str "else"],.gtup [.str "done"],.gtup [.str "choice",.str "round",.str "part"]]⟩ FN GN BN 33:=P28.add 28 (x:="_law_last") rfl F28 (Nat.le_refl _) (Nat.le_succ _) T.g_Llast T.k_Llast T.b_Llast
 have F29:=fn0 P29 T.F_Lwithin Bv Z64 (sp:=V1) (by rintro _ _ _ _ ⟨_,_,_,_,rfl,_⟩;rfl) Z76
 have P30:Prg P w K mg base ⟨K,[Zb,Zy,Z7,Y2,Zm,Z9,Ze,Zg,Z5 t.a_ByNought,Z5 t.a_ByNought,Ym t.a_ByNought,Y0,Zz,Zi t.a_ByNought,Zc,Zt,Zw t.a_ByNought,Zr,Zl,Y8,X5,Z8,Vh,Tn,(Yh 2),Wh,Yz,Sb,Rn,V1,bot,bot,bot,(fun as M Q Z=>X5 (as++[.int 100]) M Q Z),(fun as M Q Z=>Z8 (as++[.int 100]) M Q Z)],[.cls t.a_JumpError,.cls t.a_ByNought,.gtup [.str "else"],.gtup [.str "done"],.gtup [.str "choice",.str "round",.str "part"]]⟩ FN GN BN 34:=P29.add 29 (x:="_law_within") rfl F29 (Nat.le_refl _) (Nat.le_succ _) T.g_Lwithin T.k_Lwithin T.b_Lwithin
 have F30:=fn0 P30 T.F_Ldeeds Z54 Zm0 (sp:=Vx) (by rintro _ _ _ _ ⟨_,_,_,_,rfl,_⟩;rfl) Zk1
 have P31:Prg P w K mg base ⟨K,[Zb,Zy,Z7,Y2,Zm,Z9,Ze,Zg,Z5 t.a_ByNought,Z5 t.a_ByNought,Ym t.a_ByNought,Y0,Zz,Zi t.a_ByNought,Zc,Zt,Zw t.a_ByNought,Zr,Zl,Y8,X5,Z8,Vh,Tn,(Yh 2),Wh,Yz,Sb,Rn,V1,Vx,bot,bot,(fun as M Q Z=>X5 (as++[.int 100]) M Q Z),(fun as M Q Z=>Z8 (as++[.int 100]) M Q Z)],[.cls t.a_JumpError,.cls t.a_ByNought,.gtup [.str "else"],.gtup [.str "done"],.gtup [.str "choice",.str "round",.str "part"]]⟩ FN GN BN 35:=P30.add 30 (x:="_law_deeds") rfl F30 (Nat.le_refl _) (Nat.le_succ _) T.g_Ldeeds T.k_Ldeeds T.b_Ldeeds
 have F31:=fn0 P31 T.F_Lword Zg6 Y31 (sp:=Rf) (by rintro _ _ _ _ ⟨_,_,_,rfl,_⟩;rfl) Zz6
 have P32:Prg P w K mg base ⟨K,[Zb,Zy,Z7,Y2,Zm,Z9,Ze,Zg,Z5 t.a_ByNought,Z5 t.a_ByNought,Ym t.a_ByNought,Y0,Zz,Zi t.a_ByNought,Zc,Zt,Zw t.a_ByNought,Zr,Zl,Y8,X5,Z8,Vh,Tn,(Yh 2),Wh,Yz,Sb,Rn,V1,Vx,Rf,bot,(fun as M Q Z=>X5 (as++[.int 100]) M Q Z),(fun as M Q Z=>Z8 (as++[.int 100]) M Q Z)],[.cls t.a_JumpError,.cls t.a_ByNought,.gtup [.str "else"],.gtup [.str "done"],.gtup [.str "choice",.str "round",.str "part"]]⟩ FN GN BN 36:=P31.add 31 (x:="_law_word") rfl F31 (Nat.le_refl _) (Nat.le_succ _) T.g_Lword T.k_Lword T.b_Lword
 have F32:=fn0 P32 T.F_law Yc0 Ye0 (sp:=Bt) (by rintro _ _ _ _ ⟨_,rfl,_⟩;rfl) (Yd7 rfl rfl rfl rfl rfl rfl rfl rfl rfl rfl rfl rfl)
 exact F32
theorem Zt6{l:PySem.W.OpenLaw}{w:World}{fa f:Addr}{K:Ab}{mg:Str→Option Value}(hfa:mg "law"=some (.ref fa))(h:∃t:Adr,Tx K mg t∧t.a_law=f∧∀(s:Shared) (v:Value),BindsTo s t.d_law ⟨[v],[]⟩ [("_law_script",v)])
  :∃fd:FuncData,(∀(s:Shared) (v:Value),BindsTo s fd ⟨[v],[]⟩ [("_law_script",v)])∧∀base:Heap,K.In base→base.Ns mainGlobals mg→FnOk l.prog w K mg base (CX1 l.prog w) 37 fa fd ["_law_script"] (spF K Bt):=by
 obtain⟨t,T,e,hb⟩:=h
 have e2:=hfa.symm.trans T.g_law
 cases e2
 exact⟨t.d_law,hb,fun base _ _=>Y48 T⟩
end K53
namespace Hand
open PySem PySem.Spec PyProof.Rows L2 L3 U K53
noncomputable def kf(n:Str)(i:Nat)(dV kV dc pm:Value)(an:Option Addr)(cd ct:Value):Obj:=⟨.type "function",none,.func (Au n n (Zh (top i)) (Z4 (top i)) (Z1 (top i)) dV kV dc pm an cd ct),#[]⟩
noncomputable def kg(n:Str)(i:Nat)(m:Str)(t c:Nat):Obj:=kf n i .none .none .none (.str m t) none (.ref c) .none
noncomputable def kc(n:Str)(t:Nat)(l a:Int)(r:Nat)(x y:Int)(z:Nat):Obj:=⟨.type "code",none,.fields #[.str n t,.str n (t+1),.str "/claim/cut.py" (t+2),.int l 0,.int a 0,.int 0 0,.int 0 0,.int 3 0,.ref r,.bool true,.int x 0,.ref (r+1),.none,.ref (r+2),.ref (r+3),.ref (r+4),.int y 0,.int l 0,.str "/claim/cut.py" z],#[]⟩
noncomputable def ke(P:Params)(x:Str)(t:Nat)(v:Value):DictEntry:=⟨PyData.keyHash P x,.str x t,v⟩
noncomputable abbrev kd:Value:= .type "dict"
noncomputable abbrev kR(a:Nat):Value:= .ref a
noncomputable abbrev kS(x:Str)(t:Nat):Value:= .str x t
noncomputable def KH(P:Params):Ab:=(nat_lit 2,⟨.none,none,.dict #[] 0,#[]⟩)::(nat_lit 3,⟨kd,none,.dict #[ke P "__name__" 165 (kS "law_unjump_k53_spinning" 465),ke P "__doc__" 166 .none,ke P "__package__" 167 .none,ke P "__loader__" 168 (.builtin "__main__.__loader__#opaque"),ke P "__spec__" 169 .none,ke P "__annotations__" 170 (kR 6),ke P "__builtins__" 171 (kR 4),ke P "__file__" 173 (kS "/claim/cut.py" 172),ke P "__cached__" 174 .none,ke P "ELSE" 190 (kR 15),ke P "DONE" 192 (kR 16),ke P "OPENERS" 196 (kR 17),ke P "lines_of" 206 (kR 24),ke P "line_of" 213 (kR 31),ke P "told_within" 222 (kR 38),ke P "rows_of" 230 (kR 43),ke P "begin_rows" 240 (kR 50),ke P "begin_no" 249 (kR 57),ke P "finish_rows" 260 (kR 64),ke P "with_goal" 268 (kR 71),ke P "JumpError" 297 (kR 89),ke P "ByNought" 313 (kR 102),ke P "made" 324 (kR 111),ke P "quotient" 332 (kR 118),ke P "rest" 340 (kR 125),ke P "holds" 349 (kR 132),ke P "worth" 357 (kR 139),ke P "deed_of_sum" 370 (kR 146),ke P "deed_of_test" 382 (kR 153),ke P "run_from" 399 (kR 160),ke P "deed_of" 407 (kR 167),ke P "behind" 416 (kR 174),ke P "linked" 424 (kR 179),ke P "landings" 438 (kR 186),ke P "run" 452 (kR 194),ke P "run_form" 464 (kR 202),ke P "_law_raw" 474 (kR 209),ke P "_law_mix" 483 (kR 216),ke P "_law_alike" 493 (kR 223),ke P "_law_same_memory" 502 (kR 230),ke P "_law_counting" 514 (kR 237),ke P "_law_spin" 520 (kR 242),ke P "_law_last" 529 (kR 249),ke P "_law_within" 539 (kR 256),ke P "_law_deeds" 552 (kR 263),ke P "_law_word" 561 (kR 270),ke P "law" 581 (kR 277)] 47,#[]⟩)::(nat_lit 15,⟨(.type "tuple"),none,.seq #[(.str "else" 189)] 0,#[]⟩)::(nat_lit 16,⟨(.type "tuple"),none,.seq #[(.str "done" 191)] 0,#[]⟩)::(nat_lit 17,⟨(.type "tuple"),none,.seq #[(.str "choice" 193),(.str "round" 194),(.str "part" 195)] 0,#[]⟩)::(nat_lit 23,kc "lines_of" 197 5 1 18 181 204 205)::(nat_lit 24,kg "lines_of" 4 "unjump.forms" 187 23)::(nat_lit 30,kc "line_of" 207 13 1 25 181 211 212)::(nat_lit 31,kg "line_of" 5 "unjump.forms" 187 30)::(nat_lit 37,kc "told_within" 214 19 1 32 181 220 221)::(nat_lit 38,kg "told_within" 6 "unjump.forms" 187 37)::(nat_lit 42,⟨(.type "code"),none,.fields #[(.str "rows_of" 225),(.str "rows_of" 226),(.str "/claim/cut.py" 227),(.int 29 0),(.int 1 0),(.int 0 0),(.int 0 0),(.int 3 0),(.ref 39),(.bool true),(.int 181 0),(.ref 40),.none,.none,.none,(.ref 41),(.int 228 0),(.int 29 0),(.str "/claim/cut.py" 229)],#[]⟩)::(nat_lit 43,kg "rows_of" 8 "unjump.flat" 223 42)::(nat_lit 49,kc "begin_rows" 231 46 3 44 181 238 239)::(nat_lit 50,kg "begin_rows" 9 "unjump.flat" 223 49)::(nat_lit 56,kc "begin_no" 241 55 3 51 181 247 248)::(nat_lit 57,kg "begin_no" 10 "unjump.flat" 223 56)::(nat_lit 63,kc "finish_rows" 250 58 3 58 181 258 259)::(nat_lit 64,kg "finish_rows" 11 "unjump.flat" 223 63)::(nat_lit 70,kc "with_goal" 261 67 2 65 181 266 267)::(nat_lit 71,kg "with_goal" 12 "unjump.flat" 223 70)::(nat_lit 79,⟨(.type "tuple"),none,.seq #[.none] 0,#[]⟩)::(nat_lit 85,⟨(.type "code"),none,.fields #[(.str "__init__" 283),(.str "JumpError.__init__" 284),(.str "/claim/cut.py" 285),(.int 74 0),(.int 2 0),(.int 0 0),(.int 0 0),(.int 3 0),(.ref 80),(.bool true),(.int 181 0),(.ref 81),.none,(.ref 82),(.ref 83),(.ref 84),(.int 288 0),(.int 74 0),(.str "/claim/cut.py" 289)],#[]⟩)::(nat_lit 86,{cls:=Value.type "function",data:=Data.func {name:=Str.ofString "__init__",qualname:=Str.ofString "JumpError.__init__",params:={posonlyargs:=[],args:=[{arg:=Str.ofString "self",annotation:=none,pos:={line:=74,col:=17,endLine:=74,endCol:=21}},{arg:=Str.ofString "row",annotation:=none,pos:={line:=74,col:=23,endLine:=74,endCol:=26}}],vararg:=none,kwonlyargs:=[],kw_defaults:=[],kwarg:=none,defaults:=[Expr.Constant Const.none 0 {line:=74,col:=27,endLine:=74,endCol:=31}]},body:=FuncBody.stmts [Stmt.Assign [(Expr.Name (Str.ofString "self") {line:=75,col:=8,endLine:=75,endCol:=12}).Attribute (Str.ofString "row") {line:=75,col:=8,endLine:=75,endCol:=16}] (Expr.Name (Str.ofString "row") {line:=75,col:=19,endLine:=75,endCol:=22}) {line:=75,col:=8,endLine:=75,endCol:=22}],scope:={kind:=ScopeKind.function,names:=[(Str.ofString "self",NameKind.local),(Str.ofString "row",NameKind.local)],isGenerator:=false,isCoroutine:=false},globals:=3,closure:=[],defaults:=Value.ref 79,kwdefaults:=Value.none,pyModule:=Value.str (Str.ofString "unjump.errors") 269,code:=Value.ref 85}})::(nat_lit 87,⟨(.type "tuple"),none,.seq #[(.str "row" 291)] 0,#[]⟩)::(nat_lit 88,⟨kd,none,.dict #[ke P "__module__" 278 (kS "unjump.errors" 269),ke P "__firstlineno__" 282 (.int 72 281),ke P "__init__" 290 (kR 86),ke P "__static_attributes__" 292 (kR 87),ke P "__weakref__" 294 (kR 90),ke P "__doc__" 295 .none] 3,#[]⟩)::(nat_lit 89,{cls:=Value.type "type",data:=Data.cls {name:=Str.ofString "JumpError",bases:=[Value.type "ValueError"],mro:=[Value.ref 89,Value.type "ValueError",Value.type "Exception",Value.type "BaseException",Value.type "object"],ns:=88,qualname:=Str.ofString "JumpError",subclasses:=[Value.ref 102]},slots:=#[some (Value.ref 72),none,some (Value.str (Str.ofString "JumpError") 271),some (Value.str (Str.ofString "JumpError") 279),some (Value.builtin "ValueError.__new__"),some (Value.bool true)]})::(nat_lit 100,⟨(.type "tuple"),none,.seq #[] 0,#[]⟩)::(nat_lit 101,⟨kd,none,.dict #[ke P "__module__" 305 (kS "unjump.errors" 269),ke P "__firstlineno__" 309 (.int 76 308),ke P "__static_attributes__" 310 (kR 100),ke P "__doc__" 311 .none] 2,#[]⟩)::(nat_lit 102,{cls:=Value.type "type",data:=Data.cls {name:=Str.ofString "ByNought",bases:=[Value.ref 89],mro:=[Value.ref 102,Value.ref 89,Value.type "ValueError",Value.type "Exception",Value.type "BaseException",Value.type "object"],ns:=101,qualname:=Str.ofString "ByNought"},slots:=#[some (Value.ref 93),none,some (Value.str (Str.ofString "ByNought") 298),some (Value.str (Str.ofString "ByNought") 306),some (Value.builtin "ValueError.__new__"),some (Value.bool true)]})::(nat_lit 110,kc "made" 316 79 3 105 181 322 323)::(nat_lit 111,kg "made" 17 "unjump.sums" 314 110)::(nat_lit 117,kc "quotient" 325 91 2 112 181 330 331)::(nat_lit 118,kg "quotient" 18 "unjump.sums" 314 117)::(nat_lit 124,kc "rest" 333 95 2 119 181 338 339)::(nat_lit 125,kg "rest" 19 "unjump.sums" 314 124)::(nat_lit 131,kc "holds" 341 99 3 126 181 347 348)::(nat_lit 132,kg "holds" 20 "unjump.sums" 314 131)::(nat_lit 138,kc "worth" 350 103 2 133 181 355 356)::(nat_lit 139,kg "worth" 21 "unjump.sums" 314 138)::(nat_lit 145,kc "deed_of_sum" 358 107 5 140 181 368 369)::(nat_lit 146,kg "deed_of_sum" 22 "unjump.sums" 314 145)::(nat_lit 152,kc "deed_of_test" 371 111 4 147 181 380 381)::(nat_lit 153,kg "deed_of_test" 23 "unjump.sums" 314 152)::(nat_lit 159,kc "run_from" 385 116 4 154 181 397 398)::(nat_lit 160,kg "run_from" 25 "unjump.nodes" 383 159)::(nat_lit 166,kc "deed_of" 400 129 2 161 181 405 406)::(nat_lit 167,kg "deed_of" 26 "unjump.nodes" 383 166)::(nat_lit 173,kc "behind" 408 133 3 168 181 414 415)::(nat_lit 174,kg "behind" 27 "unjump.nodes" 383 173)::(nat_lit 178,⟨(.type "code"),none,.fields #[(.str "linked" 419),(.str "linked" 420),(.str "/claim/cut.py" 421),(.int 139 0),(.int 1 0),(.int 0 0),(.int 0 0),(.int 3 0),(.ref 175),(.bool true),(.int 181 0),(.ref 176),.none,.none,.none,(.ref 177),(.int 422 0),(.int 139 0),(.str "/claim/cut.py" 423)],#[]⟩)::(nat_lit 179,kg "linked" 29 "unjump.graphs" 417 178)::(nat_lit 185,kc "landings" 425 153 2 180 181 436 437)::(nat_lit 186,kg "landings" 30 "unjump.graphs" 417 185)::(nat_lit 187,⟨(.type "tuple"),none,.seq #[(.int 100 441)] 0,#[]⟩)::(nat_lit 193,kc "run" 442 167 3 188 181 450 451)::(nat_lit 194,kf "run" 32 (.ref 187) .none .none (.str "unjump.running" 439) none (.ref 193) .none)::(nat_lit 195,⟨(.type "tuple"),none,.seq #[(.int 100 455)] 0,#[]⟩)::(nat_lit 201,kc "run_form" 456 171 3 196 181 462 463)::(nat_lit 202,kf "run_form" 34 (.ref 195) .none .none (.str "unjump.formruns" 453) none (.ref 201) .none)::(nat_lit 208,kc "_law_raw" 467 174 2 203 181 472 473)::(nat_lit 209,kg "_law_raw" 36 "law_unjump_k53_spinning" 465 208)::(nat_lit 215,kc "_law_mix" 475 178 2 210 181 481 482)::(nat_lit 216,kg "_law_mix" 37 "law_unjump_k53_spinning" 465 215)::(nat_lit 222,kc "_law_alike" 484 183 2 217 181 491 492)::(nat_lit 223,kg "_law_alike" 38 "law_unjump_k53_spinning" 465 222)::(nat_lit 229,kc "_law_same_memory" 494 200 2 224 181 500 501)::(nat_lit 230,kg "_law_same_memory" 39 "law_unjump_k53_spinning" 465 229)::(nat_lit 236,kc "_law_counting" 503 207 4 231 181 512 513)::(nat_lit 237,kg "_law_counting" 40 "law_unjump_k53_spinning" 465 236)::(nat_lit 241,⟨(.type "code"),none,.fields #[(.str "_law_spin" 515),(.str "_law_spin" 516),(.str "/claim/cut.py" 517),(.int 217 0),(.int 2 0),(.int 0 0),(.int 0 0),(.int 3 0),(.ref 238),(.bool true),(.int 181 0),(.ref 239),.none,.none,.none,(.ref 240),(.int 518 0),(.int 217 0),(.str "/claim/cut.py" 519)],#[]⟩)::(nat_lit 242,kg "_law_spin" 41 "law_unjump_k53_spinning" 465 241)::(nat_lit 248,kc "_law_last" 521 228 3 243 181 527 528)::(nat_lit 249,kg "_law_last" 42 "law_unjump_k53_spinning" 465 248)::(nat_lit 255,kc "_law_within" 530 238 3 250 181 537 538)::(nat_lit 256,kg "_law_within" 43 "law_unjump_k53_spinning" 465 255)::(nat_lit 262,kc "_law_deeds" 540 245 4 257 181 550 551)::(nat_lit 263,kg "_law_deeds" 44 "law_unjump_k53_spinning" 465 262)::(nat_lit 269,kc "_law_word" 553 254 3 264 181 559 560)::(nat_lit 270,kg "_law_word" 45 "law_unjump_k53_spinning" 465 269)::(nat_lit 276,kc "law" 562 260 1 271 181 579 580)::(nat_lit 277,kg "law" 46 "law_unjump_k53_spinning" 465 276)::[]
noncomputable def qH:Program:={PySem.Challenge.pw_unjump_k53_spinning with main:={PySem.Challenge.pw_unjump_k53_spinning.main with body:=[top 46]}}
noncomputable def lH:List Str:="ELSE"::"DONE"::"OPENERS"::"lines_of"::"line_of"::"told_within"::"rows_of"::"begin_rows"::"begin_no"::"finish_rows"::"with_goal"::"JumpError"::"ByNought"::"made"::"quotient"::"rest"::"holds"::"worth"::"deed_of_sum"::"deed_of_test"::"run_from"::"deed_of"::"behind"::"linked"::"landings"::"run"::"run_form"::"_law_raw"::"_law_mix"::"_law_alike"::"_law_same_memory"::"_law_counting"::"_law_spin"::"_law_last"::"_law_within"::"_law_deeds"::"_law_word"::[]
noncomputable def aH:List Addr:=2::3::15::16::17::23::24::30::31::37::38::42::43::49::50::56::57::63::64::70::71::79::85::86::87::88::89::100::101::102::110::111::117::118::124::125::131::132::138::139::145::146::152::153::159::160::166::167::173::174::178::179::185::186::187::193::194::195::201::202::208::209::215::216::222::223::229::230::236::237::241::242::248::249::255::256::262::263::269::270::276::277::[]
theorem eH(P:Params):aH=(KH P).map (·.1):=by kernel_rfl
set_option maxHeartbeats 0 in
theorem hlH:PySem.W.LeftO PySem.Challenge.pw_unjump_k53_spinning qH lH (fun s=>PySem.W.xlAt qH [] s&&PySem.W.recOk [] s) (PySem.W.Hook.obs (PySem.W.kHook KH aH eH)) (PySem.W.Hook.val (PySem.W.kHook KH aH eH)) 3318:=by intro w;kernel_rfl
end Hand
open PySem PySem.W PyProof.Rows
set_option maxRecDepth 100000 in
set_option maxHeartbeats 0 in
theorem PySem.Challenge.cw_unjump_k53_spinning_holds : PySem.Challenge.rw_unjump_k53_spinning.Holds := by
 w_on;o_law;refine holds_open (q:=Hand.qH) (loose:=Hand.lH) (Xt:=fun s=>xlAt Hand.qH [] s&&recOk [] s) (XP:=XL Hand.qH []) (Yf:=Hook.obs (kHook Hand.KH Hand.aH Hand.eH)) (Ya:=Hook.val (kHook Hand.KH Hand.aH Hand.eH)) (YP:=Hook.says (kHook Hand.KH Hand.aH Hand.eH)) (N:=3318) Hand.hlH (Hook.of _) (Hook.keeps _) (fun s e=>xl_of s (Bool.and_eq_true_iff.mp e).1) XL.keeps (by rfl) (by rfl) (by rfl) (fun s e=>recFacts_of (Bool.and_eq_true_iff.mp e).2) (by rfl) (by first | assumption | decide+kernel) (by decide+kernel) ⟨rfl,rfl,rfl,rfl,rfl,by decide+kernel⟩ ?hw ?hc;(case hw=>w_witness2)
 k_fill
 refine U.Zh6 (l:=PySem.Challenge.rw_unjump_k53_spinning) (k:=37) (x:="_law_script") rfl rfl ⟨rfl,by decide,by decide⟩ (fun w h Y=>PySem.W.kIn_of Y) ?F
 case F=>
  intro w mg fa h KX G hmg
  refine' K53.Zt6 hmg (K53.Yg7 KX G ?a0 ?l0 ?c0 ?k0 ?a1 ?l1 ?c1 ?k1 ?a2 ?l2 ?c2 ?k2 ?a3 ?l3 ?c3 ?k3 ?a4 ?l4 ?c4 ?k4 ?a5 ?l5 ?c5 ?k5 ?a6 ?l6 ?c6 ?k6 ?a7 ?l7 ?c7 ?k7 ?a8 ?l8 ?c8 ?k8 ?a9 ?l9 ?c9 ?k9 ?a10 ?l10 ?c10 ?k10 ?a11 ?l11 ?c11 ?k11 ?a12 ?l12 ?c12 ?k12 ?a13 ?l13 ?c13 ?k13 ?a14 ?l14 ?c14 ?k14 ?a15 ?l15 ?c15 ?k15 ?a16 ?l16 ?c16 ?k16 ?a17 ?l17 ?c17 ?k17 ?a18 ?l18 ?c18 ?k18 ?a19 ?l19 ?c19 ?k19 ?a20 ?l20 ?c20 ?k20 ?a21 ?l21 ?c21 ?k21 ?a22 ?l22 ?c22 ?k22 ?a23 ?l23 ?c23 ?k23 ?a24 ?l24 ?c24 ?k24 ?a25 ?l25 ?c25 ?k25 ?a26 ?l26 ?c26 ?k26 ?a27 ?l27 ?c27 ?k27 ?a28 ?l28 ?c28 ?k28 ?a29 ?l29 ?c29 ?k29 ?a30 ?l30 ?c30 ?k30 ?a31 ?l31 ?c31 ?k31 ?a32 ?l32 ?c32 ?k32 ?z0 ?z1 ?z2 ?z3 ?z4 ?z5 ?z6 ?z7 ?z8 ?z9 ?z10 ?z11 ?z12 ?n0 ?n1 ?xl0 ?xa0 ?xb0 ?xc0 ?xd0 ?xe0 ?xf0 ?xg0 ?xh0 ?xi0 ?xj0 ?xk0 ?xm0 ?xn0 ?xo0 ?y0_0 ?y0_1 ?y0 ?w0 ?w1 ?w2 ?w3 ?w4 ?il ?ic ?it ?dl20 ?dl21 ?u0 ?v0 ?u1 ?v1 ?u2 ?v2)
  (case a0=>k_is);(case l0=>k_is);(case c0=>k_is);(case k0=>k_is)
  (case a1=>k_is);(case l1=>k_is);(case c1=>k_is);(case k1=>k_is)
  (case a2=>k_is);(case l2=>k_is);(case c2=>k_is);(case k2=>k_is)
  (case a3=>k_is);(case l3=>k_is);(case c3=>k_is);(case k3=>k_is)
  (case a4=>k_is);(case l4=>k_is);(case c4=>k_is);(case k4=>k_is)
  (case a5=>k_is);(case l5=>k_is);(case c5=>k_is);(case k5=>k_is)
  (case a6=>k_is);(case l6=>k_is);(case c6=>k_is);(case k6=>k_is)
  (case a7=>k_is);(case l7=>k_is);(case c7=>k_is);(case k7=>k_is)
  (case a8=>k_is);(case l8=>k_is);(case c8=>k_is);(case k8=>k_is)
  (case a9=>k_is);(case l9=>k_is);(case c9=>k_is);(case k9=>k_is)
  (case a10=>k_is);(case l10=>k_is);(case c10=>k_is);(case k10=>k_is)
  (case a11=>k_is);(case l11=>k_is);(case c11=>k_is);(case k11=>k_is)
  (case a12=>k_is);(case l12=>k_is);(case c12=>k_is);(case k12=>k_is)
  (case a13=>k_is);(case l13=>k_is);(case c13=>k_is);(case k13=>k_is)
  (case a14=>k_is);(case l14=>k_is);(case c14=>k_is);(case k14=>k_is)
  (case a15=>k_is);(case l15=>k_is);(case c15=>k_is);(case k15=>k_is)
  (case a16=>k_is);(case l16=>k_is);(case c16=>k_is);(case k16=>k_is)
  (case a17=>k_is);(case l17=>k_is);(case c17=>k_is);(case k17=>k_is)
  (case a18=>k_is);(case l18=>k_is);(case c18=>k_is);(case k18=>k_is)
  (case a19=>k_is);(case l19=>k_is);(case c19=>k_is);(case k19=>k_is)
  (case a20=>k_is);(case l20=>k_is);(case c20=>k_is);(case k20=>k_is)
  (case a21=>k_is);(case l21=>k_is);(case c21=>k_is);(case k21=>k_is)
  (case a22=>k_is);(case l22=>k_is);(case c22=>k_is);(case k22=>k_is)
  (case a23=>k_is);(case l23=>k_is);(case c23=>k_is);(case k23=>k_is)
  (case a24=>k_is);(case l24=>k_is);(case c24=>k_is);(case k24=>k_is)
  (case a25=>k_is);(case l25=>k_is);(case c25=>k_is);(case k25=>k_is)
  (case a26=>k_is);(case l26=>k_is);(case c26=>k_is);(case k26=>k_is)
  (case a27=>k_is);(case l27=>k_is);(case c27=>k_is);(case k27=>k_is)
  (case a28=>k_is);(case l28=>k_is);(case c28=>k_is);(case k28=>k_is)
  (case a29=>k_is);(case l29=>k_is);(case c29=>k_is);(case k29=>k_is)
  (case a30=>k_is);(case l30=>k_is);(case c30=>k_is);(case k30=>k_is)
  (case a31=>k_is);(case l31=>k_is);(case c31=>k_is);(case k31=>k_is)
  (case a32=>k_is);(case l32=>k_is);(case c32=>k_is);(case k32=>k_is)
  (case z0=>k_is);(case z1=>k_is);(case z2=>k_is);(case z3=>k_is);(case z4=>k_is);(case z5=>k_is);(case z6=>k_is);(case z7=>k_is);(case z8=>k_is);(case z9=>k_is);(case z10=>k_is);(case z11=>k_is);(case z12=>k_is)
  (case n0=>k_is);(case n1=>k_is);(case xl0=>k_is);(case xa0=>k_is);(case xb0=>k_is);(case xc0=>k_is);(case xd0=>k_is);(case xe0=>k_is);(case xf0=>k_is);(case xg0=>k_is);(case xh0=>k_is);(case xi0=>k_is);(case xj0=>k_is);(case xk0=>k_is);(case xm0=>k_is);(case xn0=>k_is);(case xo0=>k_is);(case y0_0=>kernel_rfl);(case y0_1=>kernel_rfl);(case y0=>kernel_rfl);(case w0=>k_is);(case w1=>k_is);(case w2=>k_is);(case w3=>k_is);(case w4=>k_is);(case il=>k_is);(case ic=>k_is);(case it=>k_is);(case dl20=>k_is);(case dl21=>k_is);(case u0=>k_is);(case v0=>k_is);(case u1=>k_is);(case v1=>k_is);(case u2=>k_is);(case v2=>k_is)
